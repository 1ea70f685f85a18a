import PyProof.Rows.All
import Wide.All
import OpenK.AllK
import Wide.FinOn
import HandS.WordsExc
import HandS.ForMost
import HandS.Exc
import HandS.TryOnly
import HandS.ExcOwn
import HandS.IsInst
import HandS.Zip
import HandS.Walk
import HandS.Wide
import HandS.WideBits
import HandS.Conv
import HandS.Codes
import HandS.Defaults
import HandS.TupAny
import HandS.Style
import HandS.Gcd
import HandS.EndBits
import HandS.Sort
import HandS.Slots
import HandS.SlotsOwn
import KE.GoesMore
import KE.KOpsOwn
import HandS.HeadEnd
import HandS.More
import PyProof.InstNe
import HandS.TupMul
import KE.KItemsList
import KE.KDictZip
import HandS.IterVal
import KE.KOwnIter
import OpenK.KMeth
import HandS.Base
import HandS.Call
import HandS.ExcIs
import HandS.ExcField
import KE.KExcIs
import HandS.ExcCtx
import HandS.SuiteRaise
import HandS.RaiseFrom
import HandS.ExcInit
import HandS.ExcInitHot
import HandS.Text
import HandS.StrMore
import HandS.ReplaceLit
import HandS.RaiseMore
import HandS.ForExc
import HandS.Comp
import KE.GoesRaise
import HandS.OwnEq
import HandS.Small
import PySem.Challenge.RW_gridmetric_k50_lines_read
set_option Elab.async false
set_option linter.all false
set_option maxRecDepth 100000
set_option maxHeartbeats 40000000
/-! Further rules over the layer: // by any positive divisor; a range that is a value, walked; enumerate of a tuple; operators of an own class. -/
namespace Gm
open PySem PySem.Spec PyProof.Rows L2
section
variable {X : Cx}
/-! ### // by any positive divisor -/
theorem op_fdivP {env : Env} {l : List Env} (hN : X.base.NoSeer) (hst : X.stack = env :: l) (hgen : env.scope.isGenerator = false) (hco : env.scope.isCoroutine = false) (hb : env.builtins = builtinsNs) (hg : env.globals = mainGlobals)
    (ht : X.prog.given.tree = none) (hd : X.A.depth + 100 < recursionLimit) : OpR X (binaryOp .FloorDiv) (rI (fun _ j => 0 < j) fun i j => .int (i / j)) := by
  intro pn s σ H x y v u Q I rx ry h
  obtain ⟨i, j, rfl, rfl, hCond, q⟩ := h
  obtain ⟨t, rfl⟩ := rx
  obtain ⟨t', rfl⟩ := ry
  have h1 : (0 : Int) < j := hCond
  have hs : SeerAt (model X.prog X.w) X.A s.heap := PySem.SeerAt.of (hN.keeps I.bk) ht (I.ok.frames.trans (congrArg some hst)) hgen hco hb hg
  refine floordiv_int (by omega) ?_ (.inr (PySem.PylongRoom.of I.nolimit hd hs))
  rw [Int.fdiv_eq_ediv_of_nonneg i (by omega)]
  exact ⟨.int (i / j), H, I.tok _, ⟨_, rfl⟩, q⟩
theorem op_fdivQ {env : Env} {l : List Env} (hN : X.base.NoSeer) (hst : X.stack = env :: l) (hgen : env.scope.isGenerator = false) (hco : env.scope.isCoroutine = false) (hb : env.builtins = builtinsNs) (hg : env.globals = mainGlobals)
    (ht : X.prog.given.tree = none) (hd : X.A.depth + 100 < recursionLimit) : OpR X (binaryOp .FloorDiv) (rI (fun _ j => j ≠ 0) fun i j => .int (i.fdiv j)) := by
  intro pn s σ H x y v u Q I rx ry h
  obtain ⟨i, j, rfl, rfl, hCond, q⟩ := h
  obtain ⟨t, rfl⟩ := rx
  obtain ⟨t', rfl⟩ := ry
  have hs : SeerAt (model X.prog X.w) X.A s.heap := PySem.SeerAt.of (hN.keeps I.bk) ht (I.ok.frames.trans (congrArg some hst)) hgen hco hb hg
  refine floordiv_int hCond ?_ (.inr (PySem.PylongRoom.of I.nolimit hd hs))
  exact ⟨.int (i.fdiv j), H, I.tok _, ⟨_, rfl⟩, q⟩
theorem room100 {k : Nat} {A : Around} (hr : Room k A) (hk : 40 ≤ k) : A.depth + 100 < recursionLimit := by
  have := hr.dp
  omega
/-! ### a range as a value, and walked -/
theorem cr_range1 : CallR X (.type "range") (fun vs H Q => ∃ j, vs = [V.int j] ∧ ∀ p, H p = none → Q (.ref p) (upd H p (.rng 0 j))) := by
  intro pn s σ H vs argv Q I r h
  obtain ⟨j, rfl, q⟩ := h
  cases r with
  | cons r rr =>
    cases rr
    obtain ⟨t, rfl⟩ := r
    exact call_range_1 ⟨.ref s.heap.objs.size, upd H s.heap.objs.size (.rng 0 j), I.laid (t' := s.toks + 1 + 1) (fun b o e => Heap.get?_push_of_some _ e) (Nat.le_refl _) ⟨_, _, _, Heap.get?_push_size _ rfl⟩, rfl, q _ (I.hok.fresh (Nat.le_refl _))⟩
def iRv (te : TE) : TI := fun σ H R => te σ H fun v H1 => ∃ a lo hi, v = .ref a ∧ H1 a = some (.rng lo hi) ∧ (-(2 ^ 62) ≤ lo ∧ lo < 2 ^ 62 ∧ -(2 ^ 62) ≤ hi ∧ hi < 2 ^ 62) ∧ R (Itr lo (hi - lo).toNat) H1
theorem pi_rngv {tg e : Expr} {te : TE} (he : PE X e te) : PI X tg e (iRv te) := by
  refine ⟨fun pn s σ H R I h => ?_⟩
  refine thn (he.run pn s σ H _ I h) fun v s1 ⟨x, H1, J1, rel1, post1⟩ => ?_
  obtain ⟨a, lo, hi, ex, ha, ⟨post1, q2, q3, q4⟩, q⟩ := post1
  subst ex
  cases rel1
  obtain ⟨t, u, w, hr⟩ := J1.hok a _ ha
  refine wpAny_pyIter_range (show IsRange s1.heap a lo hi 1 t u w from hr) (small_one post1 q2 q3 q4) ?_
  refine ⟨s1.heap.objs.size, [s1.heap.objs.size], _, _, H1, rfl, J1.kept (t' := s1.toks) fun b o e => Heap.get?_push_of_some _ e, turn_range _ lo (hi - lo).toNat, ?_, fun b hb => ?_, q⟩
  · have eLo : lo + ((0 : Nat) : Int) * 1 = lo := by simp
    have eHi : (((hi - lo).toNat : Nat) : Int) - ((0 : Nat) : Int) = Builtin.Range.rangeSize lo hi 1 := by rw [rangeSize_one]; split <;> omega
    show IsRangeIter _ _ (lo + ((0 : Nat) : Int) * 1) ((((hi - lo).toNat : Nat) : Int) - ((0 : Nat) : Int)) 1
    rw [eLo, eHi]
    exact Heap.get?_push_size _ rfl
  · have e : b = s1.heap.objs.size := by simpa using hb
    subst e
    exact J1.fpOk (Nat.le_refl _) (J1.hok.fresh (Nat.le_refl _))
end
end Gm
namespace Gm
open PySem PySem.Spec PyProof.Rows L2
open AutoSeq1 (wpAny_loadPart')
/-! ### enumerate of a tuple -/
theorem meets_enumerate_newT (l : Addr) (items : Array Value) (n : Nat) (dc : Option Addr) (slo : Array (Option Value)) :
    Meets (Builtin.«enumerate.__new__» ⟨[.type "enumerate", .ref l], []⟩) (fun _ R s => s.heap.get? l = some { cls := .type "tuple", dict := dc, data := .seq items n, slots := slo } ∧
      R (.ok (.ret (.ref (s.heap.push { cls := .type "tuple_iterator", data := .fields #[.ref l, .int 0 0] }).objs.size)))
        { s with heap := (s.heap.push { cls := .type "tuple_iterator", data := .fields #[.ref l, .int 0 0] }).push { cls := .type "enumerate", data := .fields #[.none, .bool false, .ref s.heap.objs.size, rawInt 0, .none, .none] } }) :=
  .of_wp fun prog w A R s h => by
    obtain ⟨heap0, g, d, tk0, os0⟩ := s; obtain ⟨hGet, h⟩ := h
    have hsub := sub_enumerate
    have hL : Heap.IsTuple (Shared.heap ⟨heap0, g, d, tk0, os0⟩) l items := ⟨_, hGet, rfl, n, rfl⟩
    wp_walk using wpAny_loadPart' hGet
    refine wpAny_stack_any fun stt => wpAny_pure ?_
    split
    · rename_i c _ _ _ _ _
      cases (c == Value.type "enumerate")
      · wp_walk using wpAny_loadPart' hGet, wpAny_pyIter_tuple hL
        exact ⟨_, rfl, h⟩
      · wp_walk using wpAny_loadPart' hGet, wpAny_pyIter_tuple hL
        exact ⟨_, rfl, h⟩
    · wp_walk using wpAny_loadPart' hGet, wpAny_pyIter_tuple hL
      exact ⟨_, rfl, h⟩
section
variable {prog : Program} {w : World} {A : Around} {E : Value → Shared → Prop} {s : Shared}
theorem call_enumerate_tuple {l : Addr} {items : Array Value} {Q : Value → Shared → Prop} (hL : s.heap.IsTuple l items)
    (h : ∀ h', IsEnum h' (s.heap.objs.size + 1) s.heap.objs.size 0 .none → h'.IsTupleIter s.heap.objs.size l 0 → h'.objs.size = s.heap.objs.size + 2 →
      (∀ b o, s.heap.get? b = some o → h'.get? b = some o) → Q (.ref (s.heap.objs.size + 1)) { s with heap := h' }) :
    wpAny (model prog w) A (call (.type "enumerate") [.ref l]) Q E s := by
  obtain ⟨⟨c, dc, dd, slo⟩, hGet, hCls, n, hDat⟩ := hL
  replace hCls : c = .type "tuple" := hCls
  replace hDat : dd = .seq items n := hDat
  subst hCls hDat
  refine callType_new F.called_enumerate (by decide) (F.typeCall_enumerate_1 _) (F.newCall_enumerate_1 _) (fun obj => F.args_object_init_2 obj _) F.entry_enumerate_new
    (meets_enumerate_newT l items n dc slo) ⟨hGet, ?_⟩
  have hLen : (s.heap.push { cls := .type "tuple_iterator", data := .fields #[.ref l, .int 0 0] }).objs.size = s.heap.objs.size + 1 := Heap.size_push ..
  show _ ∧ _
  rw [hLen]
  have hEn : IsEnum ((s.heap.push { cls := .type "tuple_iterator", data := .fields #[.ref l, .int 0 0] }).push
      { cls := .type "enumerate", data := .fields #[.none, .bool false, .ref s.heap.objs.size, rawInt 0, .none, .none] }) (s.heap.objs.size + 1) s.heap.objs.size 0 .none := by
    have := Heap.get?_push_size (s.heap.push { cls := .type "tuple_iterator", data := .fields #[.ref l, .int 0 0] })
      (o := { cls := .type "enumerate", data := .fields #[.none, .bool false, .ref s.heap.objs.size, rawInt 0, .none, .none] }) rfl
    rw [hLen] at this; exact this
  refine ⟨⟨_, hEn, rfl⟩, h _ hEn ⟨_, Heap.get?_push_of_some _ (Heap.get?_push_size _ rfl), rfl, rfl⟩ (by rw [Heap.size_push, hLen]) fun b o x => Heap.get?_push_of_some _ (Heap.get?_push_of_some _ x)⟩
end
def IteT (K : PySem.W.Frag) (a : Addr) : It :=
  ⟨fun i H => ∃ (xv : List V) (x : V), SqT K H a xv ∧ xv[i]? = some x, fun i H v H' => ∃ T0 x, v = .ref T0 ∧ H T0 = none ∧ H' = upd H T0 (.tup [.int (i : Nat), x]) ∧ ∀ xv, SqT K H a xv → xv[i]? = some x, fun i H => ∃ xv : List V, SqT K H a xv ∧ xv.length ≤ i⟩
theorem turn_enumT {P : Program} {w : World} {K : PySem.W.Frag} {elts : List Expr} {kk : Nat} {tpos : Pos} (a e it : Addr) (hAi : a ≠ it) :
    Turn P w K (.Tuple elts kk tpos) (IteT K a) [e, it] e (fun i h => (∃ ol, IsEnum h e it ((i : Nat) : Int) ol) ∧ h.IsTupleIter it a i ∧ e ≠ it) where
  mem := by simp
  obj := fun i h stt b hBm => by
    obtain ⟨⟨ol, hEn⟩, ⟨o, ho, hCls, hDat⟩, _⟩ := stt
    have ee : b = e ∨ b = it := by simpa using hBm
    rcases ee with zq | zq
    · rw [zq]; exact ⟨_, hEn, fun v q => nomatch q⟩
    · rw [zq]; exact ⟨o, ho, fun v q => by rw [hDat] at q; cases q⟩
  keep := fun i h h' stt k => let ⟨⟨ol, hEn⟩, hIx, hDif⟩ := stt; ⟨⟨ol, k e (by simp) _ hEn⟩, hIx.at fun o q => k it (by simp) o q, hDif⟩
  item := by
    intro X hP hw hK hCls i pn s σ H E I hFp stt hGo
    subst hP hw hK
    obtain ⟨⟨ol, hEn⟩, hTi, hDif⟩ := stt
    obtain ⟨xv, x, hSq, hXi⟩ := hGo
    obtain ⟨vals, hvals, p, hLen⟩ := I.tuple hSq
    obtain ⟨u, hUi, rUi⟩ := hvals.get hXi
    have lEn : e < s.heap.objs.size := Heap.lt_size hEn
    have lTi : it < s.heap.objs.size := by obtain ⟨_, q, _⟩ := hTi; exact Heap.lt_size q
    have p' : s.heap.IsTuple a vals.toArray := p
    have hae : a ≠ e := by
      intro zq
      subst zq
      obtain ⟨o1, e1, c1, _⟩ := p'
      rw [hEn] at e1
      cases e1
      exact absurd (Value.type.inj c1) (by decide)
    have hLt : i < vals.toArray.size := by
      have := (List.getElem?_eq_some_iff.mp hUi).1
      simpa using this
    refine wpAny_pyNext_enum_itemD (Draws.tuple (prog := X.prog) (w := X.w) (A := X.A.in1) (I.ok.hd hCls) it a hAi vals.toArray) hEn ⟨hTi, p'⟩ hLt hDif (by simp [hDif, Ne.symm hae]) fun x' h' tk0 hP ho st' hTy hSz hKp => ?_
    obtain ⟨hit', p2⟩ := st'
    have hx' : x' = u := by
      have : vals[i]? = some x' := by simpa using hP
      rw [hUi] at this
      exact (Option.some.inj this).symm
    subst hx'
    refine ⟨_, rfl, wpAny_letOwnedTupleGo_enum (s := { s with heap := h', toks := tk0 + 1 }) ho fun h'' he' sBig => ?_⟩
    have hTy2 : h''.get? s.heap.objs.size = some { cls := .type "tuple", data := .seq #[.int i tk0, x'] } := (sBig.2 _ (Nat.ne_of_gt lEn)).trans hTy
    have nw : ObjOk X.prog X.w (upd H s.heap.objs.size (.tup [.int (i : Nat), x])) h'' s.heap.objs.size (.tup [.int (i : Nat), x]) :=
      ⟨by show 2 ≤ sizeLine; decide, [.int i tk0, x'], .cons ⟨_, rfl⟩ (.cons rUi .nil), ⟨_, hTy2, rfl, _, rfl⟩⟩
    have J1 : Inv X pn σ (upd H s.heap.objs.size (.tup [.int (i : Nat), x])) { s with heap := h'', toks := tk0 + 1 } :=
      I.turnedNew (ch := [e, it]) (fun b ob hBm q => (sBig.2 b (fun zq => hBm (by simp [zq]))).trans (hKp b ob (fun zq => hBm (by simp [zq])) (fun zq => hBm (by simp [zq])) q)) hFp (Nat.le_refl _) nw
    refine ⟨.ref s.heap.objs.size, _, J1, rfl, ⟨_, x, rfl, I.hok.fresh (Nat.le_refl _), rfl, fun yv hy => by rw [I.tuple_inj hy hSq]; exact hXi⟩, ⟨⟨x', ?_⟩, hit'.at fun o q => (sBig.2 it (Ne.symm hDif)).trans q, hDif⟩, fun b hBm => ?_⟩
    · have e1 : ((i + 1 : Nat) : Int) = (i : Int) + 1 := by omega
      rw [e1]; exact he'
    · have hBm2 : b < s.heap.objs.size := by
        have ee : b = e ∨ b = it := by simpa using hBm
        rcases ee with zq | zq
        · rw [zq]; exact lEn
        · rw [zq]; exact lTi
      rw [upd_ne (Nat.ne_of_lt hBm2)]
      exact (hFp b hBm).1
  done := by
    intro X hP hw hK hCls i pn s σ H E I hFp stt hGo
    subst hP hw hK
    obtain ⟨⟨ol, hEn⟩, hTi, hDif⟩ := stt
    obtain ⟨xv, hSq, hXi⟩ := hGo
    obtain ⟨vals, hvals, p, hLen⟩ := I.tuple hSq
    obtain ⟨f0, f1, f2, f3, f4, f5⟩ := hFp it (by simp)
    have hGet := hvals.length
    have p' : s.heap.IsTuple a vals.toArray := p
    have hTy : s.TypeIs (.ref e) "enumerate" := ⟨_, hEn, rfl⟩
    unfold pyNext
    refine wpAny_bind (wpAny_attempt (wpAny_callSpecial?_slot (name := Str.ofString "__next__") hTy F.slot_enumerate_next
      (wpAny_call_entry F.slot_enumerate_next hTy F.entry_enumerate_next ?_ (F.args_enumerate_next_1 _))))
    show wpAny _ _ (field (.ref e) 2 >>= _) _ _ _
    refine wpAny_bind (wpAny_field hEn rfl (x := .ref it) rfl ?_)
    refine wpAny_bind (wpAny_nextOf_tuple_end (I.ok.hd hCls) hTi p' (by simp; omega) fun h' x he' hx' => ?_)
    obtain ⟨o, ho, hc'⟩ := hx'
    refine wpAny_bind (wpAny_isInstance (T := "StopIteration") (b := true) ⟨o, ho, hc'⟩ isSubtype_stop ?_)
    exact wpAny_pure ⟨rfl, I.turned (t' := s.toks) (fun b o hBm q => he' b o hBm q) f0 f1 f3 f4 f5⟩
  self := fun A i s Q E stt h => let ⟨⟨_, hEn⟩, _⟩ := stt; wpAny_pyIter_enum hEn h
def iEnumA (K : PySem.W.Frag) (ta : TA) : TI := fun σ H R => ta σ H fun wsv HA => ∃ a xv, wsv = [.ref a] ∧ ((SqL K HA a xv ∧ R (Ite K a) HA) ∨ (SqT K HA a xv ∧ R (IteT K a) HA))
theorem pi_enumA {X : Cx} {e : Expr} {ta : TA} {p pos tpos : Pos} {elts : List Expr} {kk : Nat} (hGo : Gl X "enumerate") (hm : X.mg "enumerate" = none) (ha : PA X [e] ta) (hs : starEach [e] X.env = [(false, eval e X.env)] := by rfl) :
    PI X (.Tuple elts kk tpos) (.Call (.Name "enumerate" p) [e] [] pos) (iEnumA X.K ta) := by
  refine ⟨fun pn s σ H R I h => ?_⟩
  refine Call_ (ld_blt I hGo hm boot_enumerate (PyProof.Rows.callWith_type1 (thn (ha.run pos pn s σ H _ I h) fun argv sA ⟨wsv, HA, J1, rel1, post1⟩ => ?_) hs rfl))
  obtain ⟨a, xv, ex, hSq⟩ := post1
  subst ex
  cases rel1 with
  | cons r rr =>
    cases rr
    cases r
    have hFin : ∀ b ∈ [sA.heap.objs.size + 1, sA.heap.objs.size], sA.heap.objs.size ≤ b := fun b hBm => by
      have ee : b = sA.heap.objs.size + 1 ∨ b = sA.heap.objs.size := by simpa using hBm
      rcases ee with zq | zq
      · rw [zq]; exact Nat.le_add_right _ _
      · rw [zq]; exact Nat.le_refl _
    rcases hSq with ⟨hSq, q⟩ | ⟨hSq, q⟩
    · obtain ⟨vals, hvals, p', hLen⟩ := J1.list hSq
      refine call_enumerate_list p'.isList fun h' hEn hTi hSz hKp => wpAny_pyIter_enum hEn ?_
      have J2 : Inv X pn σ HA { sA with heap := h' } := J1.kept (t' := sA.toks) hKp
      exact ⟨sA.heap.objs.size + 1, [sA.heap.objs.size + 1, sA.heap.objs.size], _, _, HA, rfl, J2, turn_enum a (sA.heap.objs.size + 1) sA.heap.objs.size, ⟨⟨.none, hEn⟩, hTi, Nat.succ_ne_self _⟩, fun b hBm => J1.fpOk (hFin b hBm) (J1.hok.fresh (hFin b hBm)), q⟩
    · obtain ⟨vals, hvals, p', hLen⟩ := J1.tuple hSq
      have hAl : a ≠ sA.heap.objs.size := by
        obtain ⟨o, e, _⟩ := (show sA.heap.IsTuple a vals.toArray from p')
        exact Nat.ne_of_lt (Heap.lt_size e)
      refine call_enumerate_tuple (show sA.heap.IsTuple a vals.toArray from p') fun h' hEn hTi hSz hKp => wpAny_pyIter_enum hEn ?_
      have J2 : Inv X pn σ HA { sA with heap := h' } := J1.kept (t' := sA.toks) hKp
      exact ⟨sA.heap.objs.size + 1, [sA.heap.objs.size + 1, sA.heap.objs.size], _, _, HA, rfl, J2, turn_enumT a (sA.heap.objs.size + 1) sA.heap.objs.size hAl, ⟨⟨.none, hEn⟩, hTi, Nat.succ_ne_self _⟩, fun b hBm => J1.fpOk (hFin b hBm) (J1.hok.fresh (hFin b hBm)), q⟩
theorem walk_enumT {K : PySem.W.Frag} {a : Addr} {xv : List V} : Walk (IteT K a) xv.length (fun H => SqT K H a xv) (YPair (fun i => some (.int (i : Nat))) (fun i => xv[i]?)) := by
  refine ⟨fun i _ hIx q => ⟨xv, xv[i], q, by simp [hIx]⟩, fun _ q => ⟨xv, q, Nat.le_refl _⟩, fun i H v H' _ q y => ?_⟩
  obtain ⟨T0, x, h1, h2, h3, h4⟩ := y
  exact ⟨T0, .int (i : Nat), x, h1, h2, h3, rfl, h4 xv q⟩
theorem walk_zipT {K : PySem.W.Frag} {a b : Addr} {xv yv : List V} {n : Nat} (hn : n = min xv.length yv.length) : Walk (RZ.ItzT K a b) n (fun H => SqT K H a xv ∧ SqT K H b yv) (YPair (fun i => xv[i]?) (fun i => yv[i]?)) := by
  subst hn
  refine ⟨fun i _ hIx q => ?_, fun _ q => ⟨xv, yv, q.1, q.2, by omega⟩, fun i H v H' _ q y => ?_⟩
  · have h1 : i < xv.length := by omega
    have h2 : i < yv.length := by omega
    exact ⟨xv, yv, xv[i], yv[i], q.1, q.2, by simp [h1], by simp [h2]⟩
  · obtain ⟨T0, x, zq, h1, h2, h3, h4, h5⟩ := y
    exact ⟨T0, x, zq, h1, h2, h3, h4 xv q.1, h5 yv q.2⟩
end Gm
namespace Gm
open PySem PySem.Spec PyProof.Rows L2
section
variable {X : Cx} {C f : Addr} {fd : FuncData} {ps : List Str} {CX : CXT} {k : Nat} {sp : Sp} {E : XK}
/-- an instance as the library's words want it -/
theorem inst_of {pn : List (Addr × Obj)} {σ : L2.St} {H : Hp} {s : Shared} {a dx : Addr} {fs : List (Str × V)} (I : Inv X pn σ H s) (ha : H a = some (.ins C dx fs)) : ∃ od, PySem.W.InstAt s.heap a (PySem.W.instObj C dx) C (some od) := by
  obtain ⟨mAt, J, _⟩ := ins_get I.hok ha
  obtain ⟨od, J, _⟩ := J.look
  exact ⟨od, J⟩
/-- a op b, both instances of one own class that defines op -/
def rOwnBin (C : Addr) (sp : Sp) (E : XK) : R2 := fun x y H Q => ∃ a b dx dy fs gs, x = .ref a ∧ y = .ref b ∧ H a = some (.ins C dx fs) ∧ H b = some (.ins C dy gs) ∧ sp [x, y] H Q E
theorem op_ownBin {op : Operator} (hc : PySem.W.selfFirst X.K C = true) (hs : PySem.W.findIn X.K (.ref C) (PySem.dunder op.info.2) = some (some (.ref f))) (hf : PySem.W.isFn X.K (.ref f) = true)
    (F : FnOk X.prog X.w X.K X.mg X.base CX k f fd ps sp) (hr : Room k X.A) (hb : Binds X.K fd ps []) (hx : Passes CX X E) : OpR X (binaryOp op) (rOwnBin C sp E) := by
  intro pn s σ H x y v u Q I rx ry h
  obtain ⟨a, b, dx, dy, fs, gs, rfl, rfl, ha, hb', q⟩ := h
  cases rx
  cases ry
  obtain ⟨od, J⟩ := inst_of I ha
  obtain ⟨od', J'⟩ := inst_of I hb'
  obtain ⟨m, hF⟩ := I.fr
  refine PySem.W.binop_K hF I.ok.mod.kin J J'.type hc hs hf ?_
  refine wpAny_mono (run_fn (us := [.ref a, .ref b]) (vs := [.ref a, .ref b]) F hr hb .nil hx I (.cons rfl (.cons rfl .nil)) q) (fun w s' z => ?_) fun _ _ x => x
  obtain ⟨zR, HR, IR, relZ, postZ⟩ := z
  exact SlX.cmpback relZ ⟨zR, HR, IR, relZ, postZ⟩
/-- a op b compared by an own def -/
def rOwnCmp (K : PySem.W.Frag) (C : Addr) (sp : Sp) (E : XK) : R2 := fun x y H Q => ∃ a b dx dy fs gs, x = .ref a ∧ y = .ref b ∧ H a = some (.ins C dx fs) ∧ H b = some (.ins C dy gs) ∧ sp [x, y] H Q E
theorem op_ownCmp {op : CmpOp} (hop : ∀ a b, compareOp op a b = richCompare op a b) (hs : PySem.W.findIn X.K (.ref C) (cmpInfo op).2.1 = some (some (.ref f))) (hf : PySem.W.isFn X.K (.ref f) = true)
    (F : FnOk X.prog X.w X.K X.mg X.base CX k f fd ps sp) (hr : Room k X.A) (hb : Binds X.K fd ps []) (hx : Passes CX X E) : OpR X (compareOp op) (rOwnCmp X.K C sp E) := by
  intro pn s σ H x y v u Q I rx ry h
  obtain ⟨a, b, dx, dy, fs, gs, rfl, rfl, ha, hb', q⟩ := h
  cases rx
  cases ry
  obtain ⟨od, J⟩ := inst_of I ha
  obtain ⟨od', J'⟩ := inst_of I hb'
  obtain ⟨m, hF⟩ := I.fr
  rw [hop]
  refine PySem.W.cmp_K (op := op) (tb := .ref C) hr.units0 hF I.ok.mod.kin J J'.type (by simp [PySem.W.notFirst]) hs hf ?_
  refine wpAny_mono (run_fn (us := [.ref a, .ref b]) (vs := [.ref a, .ref b]) F hr hb .nil hx I (.cons rfl (.cons rfl .nil)) q) (fun w s' z => ?_) fun _ _ x => x
  obtain ⟨zR, HR, IR, relZ, postZ⟩ := z
  exact SlX.cmpback relZ ⟨zR, HR, IR, relZ, postZ⟩
/-- -a of an own class -/
def rOwnUn (C : Addr) (sp : Sp) (E : XK) : V → Hp → VK → Prop := fun x H Q => ∃ a dx fs, x = .ref a ∧ H a = some (.ins C dx fs) ∧ sp [x] H Q E
theorem un_ownNeg (hs : PySem.W.findIn X.K (.ref C) "__neg__" = some (some (.ref f))) (hf : PySem.W.isFn X.K (.ref f) = true)
    (F : FnOk X.prog X.w X.K X.mg X.base CX k f fd ps sp) (hr : Room k X.A) (hb : Binds X.K fd ps []) (hx : Passes CX X E) : UnR X (unaryOp .USub) (rOwnUn C sp E) := by
  intro pn s σ H x v Q I rx h
  obtain ⟨a, dx, fs, rfl, ha, q⟩ := h
  cases rx
  obtain ⟨od, J⟩ := inst_of I ha
  obtain ⟨m, hF⟩ := I.fr
  exact PySem.W.ksp_neg hF I.ok.mod.kin J hs hf (run_fn (us := [.ref a]) (vs := [.ref a]) F hr hb .nil hx I (.cons rfl .nil) q)
/-- len(a) of an own class -/
def rOwnLen (C : Addr) (sp : Sp) (E : XK) : List V → Hp → VK → Prop := fun xs H Q => ∃ a dx fs, xs = [.ref a] ∧ H a = some (.ins C dx fs) ∧ sp [.ref a] H (fun v HR => ∃ n : Nat, v = .int n ∧ n < 2 ^ 62 ∧ Q (.int n) HR) E
theorem call_ownLen (hs : PySem.W.findIn X.K (.ref C) "__len__" = some (some (.ref f))) (hf : PySem.W.isFn X.K (.ref f) = true)
    (F : FnOk X.prog X.w X.K X.mg X.base CX k f fd ps sp) (hr : Room (k + 1) X.A) (hb : Binds X.K fd ps []) (hx : ∀ (H : Hp) (s : Shared) (e : Value) (s' : Shared), CX X.stack H s E e s' → False) : CallR X (.builtin "len") (rOwnLen C sp E) := by
  intro pn s σ H vs argv Q I r h
  obtain ⟨a, dx, fs, rfl, ha, q⟩ := h
  cases r with
  | cons r rRest =>
    cases rRest
    cases r
    obtain ⟨od, J⟩ := inst_of I ha
    obtain ⟨m, hF⟩ := I.fr
    refine PySem.W.len_K hF I.ok.mod.kin J hs hf ?_
    have hl := F.len _ _ _ _ q
    have relV : Vals [V.ref a] [Value.ref a] := .cons rfl .nil
    refine wpAny_call (codeAny_mono (F.run X.A.in1 X.stack s H ⟨[.ref a], []⟩ [.ref a] [.ref a] _ E hr.in1 I.env0.in1 (by
      have := hb s [.ref a] I.kIn (by simpa using hl)
      simpa using this) relV q) fun r s' hq => ?_)
    cases r with
    | error e => exact (hx _ _ _ _ hq).elim
    | ok fl =>
      cases fl with
      | ret w =>
        obtain ⟨z, HR, IR, relZ, n, ez, hn, ex⟩ := I.after hq
        subst ez
        obtain ⟨t, rfl⟩ := relZ
        exact ⟨⟨by omega, by omega⟩, .int n, HR, IR.tok _, ⟨_, rfl⟩, ex⟩
      | next => exact False.elim hq
      | brk => exact False.elim hq
      | cont => exact False.elim hq
end
/-! ### a method that may raise, what is raised wished for at the caller's slots -/
section
variable {X : Cx} {C f : Addr} {fd : FuncData} {ps : List Str} {CX : CXT} {k : Nat} {sp : Sp} {E : L2.St → XK} {o e : Expr} {es : List Expr} {m : Str} {ta : TE} {t : TA} {pos apos : Pos}
def tMethS (C : Addr) (m : Str) (sp : Sp) (E : L2.St → XK) (ta : TE) (t : TA) : TE := fun σ H Q => ta σ H fun x H1 => ∃ a dx fs, x = .ref a ∧ H1 a = some (.ins C dx fs) ∧ fs.lookup m = none ∧ t σ H1 fun vs H2 => sp (x :: vs) H2 Q (E σ)
theorem pe_methS {pl : Sem Bool} (he : PE X o ta) (c : Cls X.K C) (hm : Meth X.K C m f) (F : FnOk X.prog X.w X.K X.mg X.base CX k f fd ps sp) (hr : Room k X.A) (hb : Binds X.K fd ps []) (hx : ∀ σ, PassesAt CX X σ (E σ)) (ha : PA X (e :: es) t)
    (hStar : starEach (e :: es) X.env = (false, eval e X.env) :: starEach es X.env := by rfl) (hPlain : (backTo pos (starEach es X.env)).any (·.1) = false := by rfl)
    (hEval : eval (.Call (.Attribute o m apos) (e :: es) [] pos) X.env = (do
      let ov ← eval o X.env
      standAt apos.atName
      let (f, first) ← holding [ov] (getMethod ov m pl)
      callWith pos f first (backTo pos (starEach (e :: es) X.env)) (backToKw pos (keywordEach [] X.env))) := by rfl) :
    PE X (.Call (.Attribute o m apos) (e :: es) [] pos) (tMethS C m sp E ta t) := by
  refine ⟨fun pn s σ H Q I h => ?_⟩
  refine PySem.W.methodCall_KW (pl := pl) (thn (he.run pn s σ H _ I h) fun u s1 ⟨x, H1, J1, rx, a, dx, fs, ex, ea, l, q⟩ => ?_) hEval
  subst ex
  obtain rfl : u = Value.ref a := rx
  refine getmeth_ok J1 ea c hm l ?_
  refine PySem.W.callWith_K (first := [.ref a]) (h₀ := X.base) I.ok.mod.kin hm.kp (thn (ha.run pos pn s1 σ H1 _ J1 q) fun argv s2 ⟨vs, H2, J2, r, q2⟩ => ⟨J2.kIn, ?_⟩) hStar hPlain
  exact run_fnS (us := .ref a :: argv) (vs := .ref a :: vs) F hr hb (hx σ) J2 (.cons rfl r) q2
theorem pe_methS0 {pl : Sem Bool} (he : PE X o ta) (c : Cls X.K C) (hm : Meth X.K C m f) (F : FnOk X.prog X.w X.K X.mg X.base CX k f fd ps sp) (hr : Room k X.A) (hb : Binds X.K fd ps []) (hx : ∀ σ, PassesAt CX X σ (E σ))
    (hEval : eval (.Call (.Attribute o m apos) [] [] pos) X.env = (do
      let ov ← eval o X.env
      standAt apos.atName
      let (f, first) ← holding [ov] (getMethod ov m pl)
      callWith pos f first (backTo pos (starEach [] X.env)) (backToKw pos (keywordEach [] X.env))) := by rfl) :
    PE X (.Call (.Attribute o m apos) [] [] pos) (tMethS C m sp E ta tNil) := by
  refine ⟨fun pn s σ H Q I h => ?_⟩
  refine PySem.W.methodCall_KW (pl := pl) (thn (he.run pn s σ H _ I h) fun u s1 ⟨x, H1, J1, rx, a, dx, fs, ex, ea, l, q⟩ => ?_) hEval
  subst ex
  obtain rfl : u = Value.ref a := rx
  refine getmeth_ok J1 ea c hm l ?_
  exact PySem.W.callWith_K0 (first := [.ref a]) J1.kIn hm.kp (run_fnS (us := [.ref a]) (vs := [.ref a]) F hr hb (hx σ) J1 (.cons rfl .nil) q)
end
end Gm
/-! Data in the heap: rows of ints, rows of rows, grids; comprehensions over a walk, their new list told at once. -/
namespace Gm
open PySem PySem.Spec PyProof.Rows L2
abbrev Frag := PySem.W.Frag
/-! ### heaps -/
theorem same_upd {H : Hp} {p : Addr} {o : HO} (h : H p = none) : Same H (upd H p o) := fun b x e => by
  rw [upd_ne (ne_of_none e h)]
  exact e
theorem Same.seqT {K : Frag} {H H' : Hp} {a : Addr} {xs : List V} (e : Same H H') (h : SqT K H a xs) : SqT K H' a xs := by
  rcases h with (h | ⟨o, h⟩) | h
  · exact .inl (.inl (e _ _ h))
  · exact .inl (.inr ⟨o, e _ _ h⟩)
  · exact .inr h
/-- all but D is as it was -/
def Off (D : Addr) (H H' : Hp) : Prop := ∀ b o, b ≠ D → H b = some o → H' b = some o
theorem Same.off {D : Addr} {H H' : Hp} (e : Same H H') : Off D H H' := fun b o _ h => e b o h
theorem Off.upd {D : Addr} {H : Hp} {o : HO} : Off D H (upd H D o) := fun b u n e => by rw [upd_ne n]; exact e
theorem Off.trans {D : Addr} {H H1 H2 : Hp} (a : Off D H H1) (b : Off D H1 H2) : Off D H H2 := fun c o n h => b c o n (a c o n h)
theorem Off.same {D : Addr} {H H1 H2 : Hp} (hD : H D = none) (a : Same H H1) (b : Off D H1 H2) : Same H H2 := fun c o h => b c o (ne_of_none h hD) (a c o h)
/-- a tuple stands through what happens at a list -/
theorem sqT_off {K : Frag} {H H' : Hp} {a D : Addr} {acc xs : List V} (hD : H D = some (.lst acc)) (e : Off D H H') (h : SqT K H a xs) : SqT K H' a xs := by
  rcases h with (h | ⟨o, h⟩) | h
  · exact .inl (.inl (e _ _ (ne_of h hD (by intro z; cases z)) h))
  · exact .inl (.inr ⟨o, e _ _ (ne_of h hD (by intro z; cases z)) h⟩)
  · exact .inr h
/-! ### a list or tuple -/
def Seq (K : Frag) (H : Hp) (a : Addr) (xs : List V) : Prop := SqL K H a xs ∨ SqT K H a xs
theorem Seq.same {K : Frag} {H H' : Hp} {a : Addr} {xs : List V} (e : Same H H') (h : Seq K H a xs) : Seq K H' a xs := h.elim (fun h => .inl (Same.seq e h)) fun h => .inr (Same.seqT e h)
/-! ### rows of ints, rows of rows -/
/-- a tuple of ints -/
def TRow (K : Frag) (H : Hp) (v : V) (ns : List Int) : Prop := ∃ a, v = .ref a ∧ SqT K H a (ns.map V.int)
/-- a list or tuple of ints -/
def IRow (K : Frag) (H : Hp) (v : V) (ns : List Int) : Prop := ∃ a, v = .ref a ∧ Seq K H a (ns.map V.int)
/-- a tuple of tuples of ints -/
def TRows (K : Frag) (H : Hp) (v : V) (m : List (List Int)) : Prop := ∃ a vs, v = .ref a ∧ SqT K H a vs ∧ Paired (TRow K H) vs m
/-- lists or tuples of such -/
def IRows (K : Frag) (H : Hp) (v : V) (m : List (List Int)) : Prop := ∃ a vs, v = .ref a ∧ Seq K H a vs ∧ Paired (IRow K H) vs m
section
variable {K : Frag} {H H' : Hp} {v : V} {ns : List Int} {m : List (List Int)} {D : Addr} {acc : List V}
theorem TRow.same (e : Same H H') (h : TRow K H v ns) : TRow K H' v ns := let ⟨a, x, s⟩ := h; ⟨a, x, Same.seqT e s⟩
theorem TRow.off (hD : H D = some (.lst acc)) (e : Off D H H') (h : TRow K H v ns) : TRow K H' v ns := let ⟨a, x, s⟩ := h; ⟨a, x, sqT_off hD e s⟩
theorem IRow.same (e : Same H H') (h : IRow K H v ns) : IRow K H' v ns := let ⟨a, x, s⟩ := h; ⟨a, x, s.same e⟩
theorem TRow.row (h : TRow K H v ns) : IRow K H v ns := let ⟨a, x, s⟩ := h; ⟨a, x, .inr s⟩
theorem TRows.same (e : Same H H') (h : TRows K H v m) : TRows K H' v m := let ⟨a, vs, x, s, p⟩ := h; ⟨a, vs, x, Same.seqT e s, L2.Paired.mapP p fun _ _ => TRow.same e⟩
theorem TRows.off (hD : H D = some (.lst acc)) (e : Off D H H') (h : TRows K H v m) : TRows K H' v m := let ⟨a, vs, x, s, p⟩ := h; ⟨a, vs, x, sqT_off hD e s, L2.Paired.mapP p fun _ _ => TRow.off hD e⟩
theorem IRows.same (e : Same H H') (h : IRows K H v m) : IRows K H' v m := let ⟨a, vs, x, s, p⟩ := h; ⟨a, vs, x, s.same e, L2.Paired.mapP p fun _ _ => IRow.same e⟩
theorem TRows.rows (h : TRows K H v m) : IRows K H v m := let ⟨a, vs, x, s, p⟩ := h; ⟨a, vs, x, .inr s, L2.Paired.mapP p fun _ _ => TRow.row⟩
end
theorem Paired.getL {α β : Type} {F : α → β → Prop} : ∀ {l₁ : List α} {l₂ : List β} {i : Nat} {b : β}, Paired F l₁ l₂ → l₂[i]? = some b → ∃ a, l₁[i]? = some a ∧ F a b
  | _, _, _, _, .nil, e => by simp at e
  | _, _, 0, _, .cons r _, e => by simp at e; subst e; exact ⟨_, rfl, r⟩
  | _, _, i + 1, b, .cons _ t, e => by
    obtain ⟨u, h1, h2⟩ := Paired.getL (i := i) (b := b) t (by simpa using e)
    exact ⟨u, by simpa using h1, h2⟩
theorem Paired.getR {α β : Type} {F : α → β → Prop} : ∀ {l₁ : List α} {l₂ : List β} {i : Nat} {a : α}, Paired F l₁ l₂ → l₁[i]? = some a → ∃ b, l₂[i]? = some b ∧ F a b
  | _, _, _, _, .nil, e => by simp at e
  | _, _, 0, _, .cons r _, e => by simp at e; subst e; exact ⟨_, rfl, r⟩
  | _, _, i + 1, a, .cons _ t, e => by
    obtain ⟨u, h1, h2⟩ := Paired.getR (i := i) (a := a) t (by simpa using e)
    exact ⟨u, by simpa using h1, h2⟩
theorem Paired.mapR {α β γ : Type} {F : α → β → Prop} {G : α → γ → Prop} (f : β → γ) (h : ∀ a b, F a b → G a (f b)) : ∀ {l₁ : List α} {l₂ : List β}, Paired F l₁ l₂ → Paired G l₁ (l₂.map f)
  | _, _, .nil => .nil
  | _, _, .cons r t => .cons (h _ _ r) (Paired.mapR f h t)
theorem Paired.swap {α β : Type} {F : α → β → Prop} : ∀ {l₁ : List α} {l₂ : List β}, Paired F l₁ l₂ → Paired (fun b a => F a b) l₂ l₁
  | _, _, .nil => .nil
  | _, _, .cons r t => .cons r (Paired.swap t)
/-- ints alone -/
theorem paired_ints : ∀ {vs : List V} {ns : List Int}, Paired (fun v n => v = V.int n) vs ns → vs = ns.map V.int
  | _, _, .nil => rfl
  | _, _, .cons r t => by rw [List.map_cons, ← r, ← paired_ints t]
theorem paired_bls : ∀ {vs : List V} {ns : List Bool}, Paired (fun v n => v = V.bl n) vs ns → vs = ns.map V.bl
  | _, _, .nil => rfl
  | _, _, .cons r t => by rw [List.map_cons, ← r, ← paired_bls t]
theorem ints_get {ns : List Int} {i : Nat} {v : V} (h : (ns.map V.int)[i]? = some v) : ∃ n, ns[i]? = some n ∧ v = .int n := by
  rw [List.getElem?_map] at h
  cases e : ns[i]? with
  | none => rw [e] at h; cases h
  | some n => rw [e] at h; exact ⟨n, rfl, (Option.some.inj h).symm⟩
theorem ints_at {ns : List Int} {i : Nat} {n : Int} (h : ns[i]? = some n) : (ns.map V.int)[i]? = some (.int n) := by
  rw [List.getElem?_map, h]
  rfl
/-! ### walks of a list or tuple: one reading for both -/
/-- R of every walk of the n items told by Y, while a's content stands -/
def Walked (n : Nat) (Y : Nat → Hp → V → Hp → Prop) (as : List Addr) (R : It → Hp → Prop) (H1 : Hp) : Prop := ∀ (J : It) (G : Hp → Prop), Walk J n G Y → (∀ H, (∀ a ∈ as, ∀ o, H1 a = some o → H a = some o) → G H) → R J H1
theorem sqL_at {K : Frag} {H H' : Hp} {a : Addr} {xs : List V} (h : SqL K H a xs) (e : ∀ o, H a = some o → H' a = some o) : SqL K H' a xs := by
  rcases h with (h | ⟨o, h⟩) | h
  · exact .inl (.inl (e _ h))
  · exact .inl (.inr ⟨o, e _ h⟩)
  · exact .inr h
theorem sqT_at {K : Frag} {H H' : Hp} {a : Addr} {xs : List V} (h : SqT K H a xs) (e : ∀ o, H a = some o → H' a = some o) : SqT K H' a xs := by
  rcases h with (h | ⟨o, h⟩) | h
  · exact .inl (.inl (e _ h))
  · exact .inl (.inr ⟨o, e _ h⟩)
  · exact .inr h
section
variable {X : Cx} {tg e e2 : Expr} {te : TE} {ta : TA} {p pos tpos : Pos} {elts : List Expr} {kk : Nat}
def iSeq (K : Frag) (tl : TE) : TI := fun σ H R => tl σ H fun x H1 => ∃ a xs, x = .ref a ∧ Seq K H1 a xs ∧ Walked xs.length (YAt xs) [a] R H1
theorem pi_seq (hl : PE X e te) : PI X tg e (iSeq X.K te) := by
  refine ⟨fun pn s σ H R I h => ?_⟩
  refine thn (hl.run pn s σ H _ I h) fun v s1 ⟨x, H1, J1, rel1, post1⟩ => ?_
  obtain ⟨a, xs, e, hq, q⟩ := post1
  subst e
  cases rel1
  have fin : ∀ b ∈ [s1.heap.objs.size], FpOk X pn H1 b := fun b hb => by
    have e : b = s1.heap.objs.size := by simpa using hb
    subst e
    exact J1.fpOk (Nat.le_refl _) (J1.hok.fresh (Nat.le_refl _))
  rcases hq with hq | hq
  · obtain ⟨vals, hvals, p, hLen⟩ := J1.list hq
    refine wpAny_pyIter_list p.isList ?_
    exact ⟨s1.heap.objs.size, [s1.heap.objs.size], _, _, H1, rfl, J1.kept (t' := s1.toks) fun b o e => Heap.get?_push_of_some _ e, turn_list a _, ⟨_, Heap.get?_push_size _ rfl, rfl, rfl⟩, fin, q _ _ walk_list fun H e => sqL_at hq (e a (by simp))⟩
  · obtain ⟨vals, hvals, p, hLen⟩ := J1.tuple hq
    refine wpAny_pyIter_tuple (show s1.heap.IsTuple a vals.toArray from p) ?_
    exact ⟨s1.heap.objs.size, [s1.heap.objs.size], _, _, H1, rfl, J1.kept (t' := s1.toks) fun b o e => Heap.get?_push_of_some _ e, turn_tuple a _, ⟨_, Heap.get?_push_size _ rfl, rfl, rfl⟩, fin, q _ _ walk_tup fun H e => sqT_at hq (e a (by simp))⟩
def iEnumS (K : Frag) (ta : TA) : TI := fun σ H R => ta σ H fun vs H1 => ∃ a xs, vs = [.ref a] ∧ Seq K H1 a xs ∧ Walked xs.length (YPair (fun i => some (.int (i : Nat))) (fun i => xs[i]?)) [a] R H1
theorem pi_enumS (hg : Gl X "enumerate") (hm : X.mg "enumerate" = none) (ha : PA X [e] ta) (hs : starEach [e] X.env = [(false, eval e X.env)] := by rfl) :
    PI X (.Tuple elts kk tpos) (.Call (.Name "enumerate" p) [e] [] pos) (iEnumS X.K ta) := by
  refine ⟨fun pn s σ H R I h => ?_⟩
  refine Call_ (ld_blt I hg hm boot_enumerate (PyProof.Rows.callWith_type1 (thn (ha.run pos pn s σ H _ I h) fun us s1 ⟨vs, H1, J1, rel1, post1⟩ => ?_) hs rfl))
  obtain ⟨a, xs, ex, hq, q⟩ := post1
  subst ex
  cases rel1 with
  | cons r rr =>
    cases rr
    cases r
    have fin : ∀ b ∈ [s1.heap.objs.size + 1, s1.heap.objs.size], s1.heap.objs.size ≤ b := fun b hb => by
      have ee : b = s1.heap.objs.size + 1 ∨ b = s1.heap.objs.size := by simpa using hb
      rcases ee with z | z
      · rw [z]; exact Nat.le_add_right _ _
      · rw [z]; exact Nat.le_refl _
    rcases hq with hq | hq
    · obtain ⟨vals, hvals, p', hLen⟩ := J1.list hq
      refine call_enumerate_list p'.isList fun h' he hit hSz hk => wpAny_pyIter_enum he ?_
      have J2 : Inv X pn σ H1 { s1 with heap := h' } := J1.kept (t' := s1.toks) hk
      exact ⟨s1.heap.objs.size + 1, [s1.heap.objs.size + 1, s1.heap.objs.size], _, _, H1, rfl, J2, turn_enum a (s1.heap.objs.size + 1) s1.heap.objs.size, ⟨⟨.none, he⟩, hit, Nat.succ_ne_self _⟩, fun b hb => J1.fpOk (fin b hb) (J1.hok.fresh (fin b hb)), q _ _ walk_enum fun H e => sqL_at hq (e a (by simp))⟩
    · obtain ⟨vals, hvals, p', hLen⟩ := J1.tuple hq
      have hal : a ≠ s1.heap.objs.size := by
        obtain ⟨o, e, _⟩ := (show s1.heap.IsTuple a vals.toArray from p')
        exact Nat.ne_of_lt (Heap.lt_size e)
      refine call_enumerate_tuple (show s1.heap.IsTuple a vals.toArray from p') fun h' he hit hSz hk => wpAny_pyIter_enum he ?_
      have J2 : Inv X pn σ H1 { s1 with heap := h' } := J1.kept (t' := s1.toks) hk
      exact ⟨s1.heap.objs.size + 1, [s1.heap.objs.size + 1, s1.heap.objs.size], _, _, H1, rfl, J2, turn_enumT a (s1.heap.objs.size + 1) s1.heap.objs.size hal, ⟨⟨.none, he⟩, hit, Nat.succ_ne_self _⟩, fun b hb => J1.fpOk (fin b hb) (J1.hok.fresh (fin b hb)), q _ _ walk_enumT fun H e => sqT_at hq (e a (by simp))⟩
end
/-! ### comprehensions -/
/-- [e for x in .. if p]: the new list at D holds, for the turns with p, values in the relation Rel -/
theorem lc_gen {J : It} {n : Nat} {G : Hp → Prop} {Y : Nat → Hp → V → Hp → Prop} (w : Walk J n G Y) {g : TG} {tt : TT} {te : TE} {vs : List Nat} {σ : L2.St} {H1 : Hp} {D : Addr} {Qd : Hp → Prop}
    (hD : H1 D = none) (hn : n ≤ 1000) (hG : ∀ H, Same H1 H → G H) (p : Nat → Bool) (Rel : Nat → V → Hp → Prop)
    (mono : ∀ i v H H' acc, H D = some (.lst acc) → Off D H H' → Rel i v H → Rel i v H')
    (step : ∀ (i : Nat) (x : V) (H H' : Hp) (acc : List V) (Ko : VK) (Kn : Hp → Prop), i < n → Same H1 H → H D = some (.lst acc) → Y i H x H' → (p i = true → ∀ y H4, Same H H4 → Rel i y H4 → Ko y H4) → (p i = false → ∀ H3, Same H H3 → Kn H3) →
      g x (wipe σ vs) H' fun σ2 H2 => wipe σ2 vs = wipe σ vs ∧ tt σ2 H2 fun b H3 => if b = true then te σ2 H3 Ko else Kn H3)
    (done : ∀ H l, Same H1 H → H D = some (.lst l) → Paired (fun i v => Rel i v H) ((List.range n).filter p) l → Qd H) :
    ∃ W : Nat → Nat → Hp → Prop, (∃ m, W 0 m (upd H1 D (.lst []))) ∧ ∀ i m H, W i m H →
      (J.stop i H ∧ Qd H) ∨ (J.go i H ∧ ∃ Nx : Hp → Prop, (∀ H', Nx H' → ∃ m', m' < m ∧ W (i + 1) m' H') ∧ ∀ x H', J.yld i H x H' → g x (wipe σ vs) H' fun σ2 H2 => wipe σ2 vs = wipe σ vs ∧ tt σ2 H2 fun b H3 =>
        if b = true then te σ2 H3 fun y H4 => ∃ acc, H4 D = some (.lst acc) ∧ acc.length < sizeLine ∧ Nx (upd H4 D (.lst (acc ++ [y]))) else Nx H3) := by
  refine lc_it w (Pv := fun i H => Same H1 H ∧ ∃ l, H D = some (.lst l) ∧ Paired (fun i v => Rel i v H) ((List.range i).filter p) l) ?_ (fun i H _ h => hG H h.1) ?_ (fun H h => let ⟨s, l, e, q⟩ := h; done H l s e q)
  · exact ⟨same_upd hD, [], upd_same, .nil⟩
  · rintro i x H H' hi ⟨s, l, e, q⟩ y
    have hl : l.length ≤ i := by
      have := q.length
      have h2 : ((List.range i).filter p).length ≤ (List.range i).length := List.length_filter_le _ _
      rw [List.length_range] at h2
      omega
    refine step i x H H' l _ _ hi s e y (fun hp y H4 s4 r => ?_) fun hp H3 s3 => ?_
    · refine ⟨l, s4 _ _ e, small1000 (by omega), fun c o h => ?_, l ++ [y], upd_same, ?_⟩
      · exact Off.upd c o (ne_of_none h hD) (s4 _ _ (s _ _ h))
      · rw [List.range_succ, List.filter_append, List.filter_cons, List.filter_nil, if_pos hp]
        refine Paired.snoc (L2.Paired.mapP q fun j v r => mono j v H _ l e ?_ r) (mono i y H4 _ l (s4 _ _ e) Off.upd r)
        exact Off.trans (Same.off s4) Off.upd
    · refine ⟨fun c o h => s3 _ _ (s _ _ h), l, s3 _ _ e, ?_⟩
      rw [List.range_succ, List.filter_append, List.filter_cons, List.filter_nil, if_neg (by rw [hp]; exact Bool.false_ne_true), List.append_nil]
      exact L2.Paired.mapP q fun j v r => mono j v H _ l e (Same.off s3) r
/-- without a test -/
theorem lc_all {J : It} {n : Nat} {G : Hp → Prop} {Y : Nat → Hp → V → Hp → Prop} (w : Walk J n G Y) {g : TG} {te : TE} {vs : List Nat} {σ : L2.St} {H1 : Hp} {D : Addr} {Qd : Hp → Prop}
    (hD : H1 D = none) (hn : n ≤ 1000) (hG : ∀ H, Same H1 H → G H) (Rel : Nat → V → Hp → Prop)
    (mono : ∀ i v H H' acc, H D = some (.lst acc) → Off D H H' → Rel i v H → Rel i v H')
    (step : ∀ (i : Nat) (x : V) (H H' : Hp) (acc : List V) (Ko : VK), i < n → Same H1 H → H D = some (.lst acc) → Y i H x H' → (∀ y H4, Same H H4 → Rel i y H4 → Ko y H4) →
      g x (wipe σ vs) H' fun σ2 H2 => wipe σ2 vs = wipe σ vs ∧ te σ2 H2 Ko)
    (gm : ∀ x σ1 H (Q Q' : L2.St → Hp → Prop), (∀ σ2 H2, Q σ2 H2 → Q' σ2 H2) → g x σ1 H Q → g x σ1 H Q')
    (done : ∀ H l, Same H1 H → H D = some (.lst l) → Paired (fun i v => Rel i v H) (List.range n) l → Qd H) :
    ∃ W : Nat → Nat → Hp → Prop, (∃ m, W 0 m (upd H1 D (.lst []))) ∧ ∀ i m H, W i m H →
      (J.stop i H ∧ Qd H) ∨ (J.go i H ∧ ∃ Nx : Hp → Prop, (∀ H', Nx H' → ∃ m', m' < m ∧ W (i + 1) m' H') ∧ ∀ x H', J.yld i H x H' → g x (wipe σ vs) H' fun σ2 H2 => wipe σ2 vs = wipe σ vs ∧ tYes σ2 H2 fun b H3 =>
        if b = true then te σ2 H3 fun y H4 => ∃ acc, H4 D = some (.lst acc) ∧ acc.length < sizeLine ∧ Nx (upd H4 D (.lst (acc ++ [y]))) else Nx H3) := by
  refine lc_gen w hD hn hG (fun _ => true) Rel mono (fun i x H H' acc Ko Kn hi s e y k _ => ?_) fun H l s e q => done H l s e (by rw [List.filter_eq_self.mpr (fun _ _ => rfl)] at q; exact q)
  refine gm _ _ _ _ _ (fun σ2 H2 q => ⟨q.1, ?_⟩) (step i x H H' acc Ko hi s e y (k rfl))
  exact (show if true = true then te σ2 H2 Ko else Kn H2 from iteT q.2)
theorem gm_name {j : Nat} : ∀ (x : V) (σ1 : L2.St) (H : Hp) (Q Q' : L2.St → Hp → Prop), (∀ σ2 H2, Q σ2 H2 → Q' σ2 H2) → gName j x σ1 H Q → gName j x σ1 H Q' := fun _ _ _ _ _ h q => h _ _ q
theorem gm_pair {K : Frag} {i j : Nat} : ∀ (x : V) (σ1 : L2.St) (H : Hp) (Q Q' : L2.St → Hp → Prop), (∀ σ2 H2, Q σ2 H2 → Q' σ2 H2) → gTup K 2 (gCons (gName i) (gCons (gName j) gNil)) x σ1 H Q → gTup K 2 (gCons (gName i) (gCons (gName j) gNil)) x σ1 H Q' := by
  rintro x σ1 H Q Q' h ⟨a, xs, e, s, l, v, r, e1, v', r', e2, e3, q⟩
  exact ⟨a, xs, e, s, l, v, r, e1, v', r', e2, e3, h _ _ q⟩
/-- a pair unpacked into two slots -/
theorem g_pair {K : Frag} {i j : Nat} {T : Addr} {x y : V} {σ : L2.St} {H : Hp} {Q : L2.St → Hp → Prop} (hn : H T = none) (q : Q ((σ.set i (some x)).set j (some y)) (upd H T (.tup [x, y]))) : gTup K 2 (gCons (gName i) (gCons (gName j) gNil)) (.ref T) σ (upd H T (.tup [x, y])) Q :=
  ⟨T, [x, y], rfl, .inl (.inl upd_same), rfl, x, [y], rfl, y, [], rfl, rfl, q⟩
/-! ### list or tuple: slices -/
section
variable {X : Cx}
def rSlS (K : Frag) : V → Option Int → Option Int → Hp → VK → Prop := fun x lo hi H Q => rSlL K x lo hi H Q ∨ rSlT K x lo hi H Q
theorem sl_seq : SlR X (rSlS X.K) := sl_list.or sl_tup
end
end Gm
namespace Gm
open PySem PySem.Spec PyProof.Rows L2
theorem rIx_seq {K : Frag} {H : Hp} {a : Addr} {xs : List V} {i : Int} {v : V} {Q : VK} (hs : Seq K H a xs) (e : atI xs i = some v) (q : Q v H) : rIx K (.ref a) (.int i) H Q :=
  hs.elim (fun h => .inl ⟨a, xs, i, v, rfl, rfl, h, e, q⟩) fun h => .inr (.inl ⟨a, xs, i, v, rfl, rfl, h, e, q⟩)
end Gm
namespace Gm
open PySem PySem.Spec PyProof.Rows L2
/-! ### the layer's rules with the written part named (for a comprehension's block) -/
section
variable {X : Cx}
theorem ixS (K : Frag) (hK : X.K = K) : IxR X (rIx K) := by subst hK; exact ix_seq
theorem ixT (K : Frag) (hK : X.K = K) : IxR X (rIxT K) := by subst hK; exact ix_tup
theorem ixL (K : Frag) (hK : X.K = K) : IxR X (rIxL K) := by subst hK; exact ix_list
def rLen (K : Frag) : List V → Hp → VK → Prop := fun xs H Q => ∃ p ys, xs = [.ref p] ∧ Seq K H p ys ∧ Q (.int ys.length) H
theorem lenS (K : Frag) (hK : X.K = K) : CallR X (.builtin "len") (rLen K) := by subst hK; exact call_len_seq
theorem sumK (K : Frag) (hK : X.K = K) (hc : X.calm = true) : CallR X (.builtin "sum") (rSum K) := by subst hK; exact cr_sum hc
theorem allK (K : Frag) (hK : X.K = K) (hc : X.calm = true) : CallR X (.builtin "all") (rAll K) := by subst hK; exact cr_all hc
theorem isiK (K : Frag) (hK : X.K = K) : CallR X (.builtin "isinstance") (rIsi K) := by subst hK; exact call_isi
theorem isiTK (K : Frag) (hK : X.K = K) : CallR X (.builtin "isinstance") (rIsiT K) := by subst hK; exact call_isiT
def rTupleOf (K : Frag) : List V → Hp → VK → Prop := fun xs H Q => ∃ p ys, xs = [.ref p] ∧ ((SqL K H p ys ∧ ∀ l, H l = none → Q (.ref l) (upd H l (.tup ys))) ∨ (SqT K H p ys ∧ Q (.ref p) H))
theorem tupK (K : Frag) (hK : X.K = K) : CallR X (.type "tuple") (rTupleOf K) := by subst hK; exact call_tuple_of
def rListOf (K : Frag) : List V → Hp → VK → Prop := fun xs H Q => ∃ p ys, xs = [.ref p] ∧ Seq K H p ys ∧ ∀ l, H l = none → Q (.ref l) (upd H l (.lst ys))
theorem listK (K : Frag) (hK : X.K = K) : CallR X (.type "list") (rListOf K) := by subst hK; exact call_list_of
theorem catK (K : Frag) (hK : X.K = K) : OpR X (binaryOp .Add) (rCatA K) := by subst hK; exact op_catA
theorem slTK (K : Frag) (hK : X.K = K) : SlR X (rSlA K) := by subst hK; exact sl_tupA
theorem slLK (K : Frag) (hK : X.K = K) : SlR X (rSlL K) := by subst hK; exact sl_list
theorem slSK (K : Frag) (hK : X.K = K) : SlR X (rSlS K) := by subst hK; exact sl_seq
theorem eqDK (K : Frag) (hK : X.K = K) {k : Nat} (hr : Room k X.A) : OpR X (compareOp .Eq) (rEqD K) := by subst hK; exact op_eqD hr.units
theorem neDK (K : Frag) (hK : X.K = K) {k : Nat} (hr : Room k X.A) : OpR X (compareOp .NotEq) (rNeD K) := by subst hK; exact op_neD hr.units
variable {e e2 tg : Expr} {te ta : TE} {f : Str} {p pos tpos : Pos} {elts : List Expr} {kk : Nat} {tas : TA}
theorem fldK (K : Frag) (hK : X.K = K) (he : PE X e ta) (hb : attributeBase e f X.env (eval e X.env) = eval e X.env) : PE X (.Attribute e f pos) (tFld K ta f) := by subst hK; exact pe_fld he hb
theorem piS (K : Frag) (hK : X.K = K) (he : PE X e te) : PI X tg e (iSeq K te) := by subst hK; exact pi_seq he
/-- a tuple alone -/
theorem piEnum (K : Frag) (hK : X.K = K) (hg : Gl X "enumerate") (hm : X.mg "enumerate" = none) (ha : PA X [e] tas) (hs : starEach [e] X.env = [(false, eval e X.env)] := by rfl) :
    PI X (.Tuple elts kk tpos) (.Call (.Name "enumerate" p) [e] [] pos) (iEnumS K tas) := by subst hK; exact pi_enumS hg hm ha hs
def iZipT (K : Frag) (ta : TA) : TI := fun σ H R => ta σ H fun vs H1 => ∃ a b xs ys, vs = [.ref a, .ref b] ∧ SqT K H1 a xs ∧ SqT K H1 b ys ∧ R (RZ.ItzT K a b) H1
theorem piZipT (K : Frag) (hK : X.K = K) (hg : Gl X "zip") (hm : X.mg "zip" = none) (ha : PA X [e, e2] tas)
    (mono : ∀ σ H (Q Q' : List V → Hp → Prop), (∀ vs H, Q vs H → Q' vs H) → tas σ H Q → tas σ H Q')
    (hs : starEach [e, e2] X.env = (false, eval e X.env) :: starEach [e2] X.env := by rfl) (hpl : (backTo pos (starEach [e2] X.env)).any (·.1) = false := by rfl) :
    PI X (.Tuple elts kk tpos) (.Call (.Name "zip" p) [e, e2] [] pos) (iZipT K tas) := by
  subst hK
  refine ⟨fun pn s σ H R I h => (RZ.pi_zipA hg hm ha hs hpl).run pn s σ H R I (mono σ H _ _ (fun vs H1 q => ?_) h)⟩
  obtain ⟨a, b, xs, ys, e, h1, h2, q⟩ := q
  exact ⟨a, b, xs, ys, e, .inr ⟨h1, h2, q⟩⟩
end
end Gm
namespace Gm
open PySem PySem.Spec PyProof.Rows L2
theorem paired_true : ∀ {is : List Nat} {l : List V}, Paired (fun (_ : Nat) v => v = V.bl true) is l → l = (List.replicate l.length true).map V.bl
  | _, _, .nil => rfl
  | _, _, .cons r t => by
    rw [List.length_cons, List.replicate_succ, List.map_cons, ← r, ← paired_true t]
theorem all_true (n : Nat) : (List.replicate n true).all id = true := by
  induction n with
  | zero => rfl
  | succ n ih => rw [List.replicate_succ, List.all_cons, ih] <;> rfl
/-- values in relation with the items of a list, by place -/
theorem paired_at {α : Type} {F : V → α → Prop} {m : List α} : ∀ {n : Nat} {l : List V}, n = m.length → Paired (fun (i : Nat) v => ∃ x, m[i]? = some x ∧ F v x) (List.range n) l → Paired F l m := by
  intro n l hn h
  subst hn
  have key : ∀ (is : List Nat) (l : List V) (xs : List α), Paired (fun (i : Nat) v => ∃ x, m[i]? = some x ∧ F v x) is l → is.map (fun i => m[i]?) = xs.map some → Paired F l xs := by
    intro is l xs h
    induction h generalizing xs with
    | nil =>
      intro e
      cases xs with
      | nil => exact .nil
      | cons a b => cases e
    | cons r t ih =>
      intro e
      cases xs with
      | nil => cases e
      | cons a b =>
        rw [List.map_cons, List.map_cons] at e
        obtain ⟨x, ex, fx⟩ := r
        have e1 := (List.cons.inj e).1
        have e2 := (List.cons.inj e).2
        rw [ex] at e1
        cases e1
        exact .cons fx (ih b e2)
  refine key _ l m h ?_
  apply List.ext_getElem?
  intro i
  rw [List.getElem?_map, List.getElem?_map]
  by_cases hi : i < m.length
  · rw [List.getElem?_range hi, List.getElem?_eq_getElem hi]
    exact congrArg some (List.getElem?_eq_getElem hi)
  · rw [List.getElem?_eq_none (by simpa using hi), List.getElem?_eq_none (by omega)]
    rfl
end Gm
namespace Gm
open PySem PySem.Spec PyProof.Rows L2
section
variable {K : Frag} {H : Hp} {a b : Addr} {xs ys : List V} {Q : VK}
theorem cut_take (xs : List V) (j : Nat) : cutV xs none (some (j : Int)) = xs.take j := by
  unfold cutV
  rw [HT.sIx_none, HT.sIx_nat, List.drop_zero, Nat.sub_zero]
  by_cases h : j ≤ xs.length
  · rw [Nat.min_eq_left h]
  · rw [Nat.min_eq_right (by omega), List.take_length, List.take_of_length_le (by omega)]
theorem cut_drop (xs : List V) (j : Nat) : cutV xs (some (j : Int)) none = xs.drop j := by
  unfold cutV
  rw [HT.sIx_none, HT.sIx_nat]
  by_cases h : j ≤ xs.length
  · rw [Nat.min_eq_left h, List.take_of_length_le (by rw [List.length_drop]; exact Nat.le_refl _)]
  · rw [Nat.min_eq_right (by omega), Nat.sub_self, List.take_zero, List.drop_of_length_le (by omega)]
theorem slA_take (h : SqT K H a xs) (j : Nat) (q : ∀ p H', Same H H' → SqT K H' p (xs.take j) → Q (.ref p) H') : rSlA K (.ref a) none (some (j : Int)) H Q := by
  refine ⟨a, xs, rfl, h, fun e => ?_, fun _ p np => ?_⟩
  · have e2 : min j xs.length = xs.length := by
      have := e.2
      rw [HT.sIx_nat] at this
      exact this
    refine q a H (Same.refl _) ?_
    rw [List.take_of_length_le (by omega)]
    exact h
  · exact q p _ (same_upd np) (.inl (.inl (by rw [upd_same, cut_take])))
theorem slA_drop (h : SqT K H a xs) (j : Nat) (q : ∀ p H', Same H H' → SqT K H' p (xs.drop j) → Q (.ref p) H') : rSlA K (.ref a) (some (j : Int)) none H Q := by
  refine ⟨a, xs, rfl, h, fun e => ?_, fun _ p np => ?_⟩
  · have e2 : min j xs.length = 0 := by
      have := e.1
      rw [HT.sIx_nat] at this
      exact this
    refine q a H (Same.refl _) ?_
    by_cases hj : j = 0
    · rw [hj]
      exact h
    · have : xs = [] := List.eq_nil_of_length_eq_zero (by omega)
      rw [this] at h ⊢
      simpa using h
  · exact q p _ (same_upd np) (.inl (.inl (by rw [upd_same, cut_drop])))
theorem catA (hx : SqT K H a xs) (hy : SqT K H b ys) (hl : xs.length + ys.length ≤ 1000) (q : ∀ p H', Same H H' → SqT K H' p (xs ++ ys) → Q (.ref p) H') : rCatA K (.ref a) (.ref b) H Q := by
  refine ⟨a, b, xs, ys, rfl, rfl, hx, hy, Nat.le_of_lt (small1000 hl), fun e => ?_, fun _ e => ?_, fun _ _ p np => ?_⟩
  · subst e
    exact q b H (Same.refl _) hy
  · subst e
    refine q a H (Same.refl _) ?_
    rw [List.append_nil]
    exact hx
  · exact q p _ (same_upd np) (.inl (.inl upd_same))
end
/-- lists of ints, apart from D: a list of such lists is a matrix -/
theorem lists_rows {K : Frag} {H : Hp} {D : Addr} {l : List V} {m : List (List Int)} {n : Nat} (hn : n = m.length) (e : H D = some (.lst l)) (h : Paired (fun (i : Nat) v => ∃ p, v = V.ref p ∧ p ≠ D ∧ H p = some (.lst ((m.getD i []).map V.int))) (List.range n) l) : IRows K H (.ref D) m := by
  refine ⟨D, l, rfl, .inl (.inl (.inl e)), paired_at (m := m) hn ?_⟩
  have key : ∀ (is : List Nat) (l : List V), (∀ i ∈ is, i < m.length) → Paired (fun (i : Nat) v => ∃ p, v = V.ref p ∧ p ≠ D ∧ H p = some (.lst ((m.getD i []).map V.int))) is l → Paired (fun (i : Nat) v => ∃ x, m[i]? = some x ∧ IRow K H v x) is l := by
    intro is l hi h
    induction h with
    | nil => exact .nil
    | cons r t ih =>
      obtain ⟨p, rfl, _, e⟩ := r
      have h1 := hi _ (List.mem_cons_self ..)
      refine .cons ⟨_, List.getElem?_eq_getElem h1, p, rfl, .inl (.inl (.inl ?_))⟩ (ih fun i h => hi i (List.mem_cons_of_mem _ h))
      rw [List.getD_eq_getElem?_getD, List.getElem?_eq_getElem h1] at e
      exact e
  exact key _ _ (fun i h => by rw [List.mem_range] at h; omega) h
theorem lists_mono {D : Addr} {f : Nat → List Int} (i : Nat) (v : V) (H H' : Hp) (acc : List V) (_ : H D = some (.lst acc)) (o : Off D H H') (h : ∃ p, v = V.ref p ∧ p ≠ D ∧ H p = some (.lst ((f i).map V.int))) : ∃ p, v = V.ref p ∧ p ≠ D ∧ H' p = some (.lst ((f i).map V.int)) :=
  let ⟨p, e, n, h⟩ := h
  ⟨p, e, n, o _ _ n h⟩
/-- ints by place -/
theorem ints_list {l : List V} {ns : List Int} {n : Nat} (hn : n = ns.length) (h : Paired (fun (i : Nat) v => ∃ x, ns[i]? = some x ∧ v = V.int x) (List.range n) l) : l = ns.map V.int := paired_ints (paired_at hn h)
end Gm
namespace Gm
open PySem PySem.Spec PyProof.Rows L2
theorem tyes_of {σ : L2.St} {H : Hp} {q : Hp → Prop} {r : Hp → Prop} (h : q H) : tYes σ H fun b H3 => if b = true then q H3 else r H3 := iteT (A := q H) (B := r H) h
/-- a comprehension whose turns may change other objects: A is kept, the values are told without the heap -/
theorem lc_val {J : It} {n : Nat} {G : Hp → Prop} {Y : Nat → Hp → V → Hp → Prop} (w : Walk J n G Y) {g : TG} {te : TE} {vs : List Nat} {σ : L2.St} {H1 : Hp} {D : Addr} {Qd : Hp → Prop}
    (hn : n ≤ 1000) (A : Hp → Prop) (A0 : A (upd H1 D (.lst []))) (hG : ∀ H, A H → G H) (Au : ∀ H acc acc', A H → H D = some (.lst acc) → A (upd H D (.lst acc'))) (Rel : Nat → V → Prop)
    (step : ∀ (i : Nat) (x : V) (H H' : Hp) (acc : List V) (Ko : VK), i < n → A H → H D = some (.lst acc) → Y i H x H' → (∀ y H4, A H4 → H4 D = some (.lst acc) → Rel i y → Ko y H4) →
      g x (wipe σ vs) H' fun σ2 H2 => wipe σ2 vs = wipe σ vs ∧ te σ2 H2 Ko)
    (gm : ∀ (x : V) (σ1 : L2.St) (H : Hp) (Q Q' : L2.St → Hp → Prop), (∀ σ2 H2, Q σ2 H2 → Q' σ2 H2) → g x σ1 H Q → g x σ1 H Q')
    (done : ∀ H l, A H → H D = some (.lst l) → Paired (fun i v => Rel i v) (List.range n) l → Qd H) :
    ∃ W : Nat → Nat → Hp → Prop, (∃ m, W 0 m (upd H1 D (.lst []))) ∧ ∀ i m H, W i m H →
      (J.stop i H ∧ Qd H) ∨ (J.go i H ∧ ∃ Nx : Hp → Prop, (∀ H', Nx H' → ∃ m', m' < m ∧ W (i + 1) m' H') ∧ ∀ x H', J.yld i H x H' → g x (wipe σ vs) H' fun σ2 H2 => wipe σ2 vs = wipe σ vs ∧ tYes σ2 H2 fun b H3 =>
        if b = true then te σ2 H3 fun y H4 => ∃ acc, H4 D = some (.lst acc) ∧ acc.length < sizeLine ∧ Nx (upd H4 D (.lst (acc ++ [y]))) else Nx H3) := by
  refine lc_it w (Pv := fun i H => A H ∧ ∃ l, H D = some (.lst l) ∧ Paired (fun i v => Rel i v) (List.range i) l) ?_ (fun i H _ h => hG H h.1) ?_ (fun H h => let ⟨s, l, e, q⟩ := h; done H l s e q)
  · exact ⟨A0, [], upd_same, .nil⟩
  · rintro i x H H' hi ⟨a, l, e, q⟩ y
    have hl : l.length = i := by
      have := q.length
      rw [List.length_range] at this
      omega
    refine gm _ _ _ _ _ (fun σ2 H2 q => ⟨q.1, tyes_of q.2⟩) (step i x H H' l _ hi a e y fun y H4 a4 e4 r => ?_)
    refine ⟨l, e4, small1000 (by omega), Au _ _ _ a4 e4, l ++ [y], upd_same, ?_⟩
    rw [List.range_succ]
    exact Paired.snoc q r
theorem ixN_nat {n k : Nat} (h : k < n) : ixN n (k : Int) = some k := by
  unfold ixN
  first
    | simp [h]
    | (split <;> simp_all <;> omega)
    | omega
end Gm
namespace Gm
open PySem PySem.Spec PyProof.Rows L2
theorem vals_small {is : List Nat} {l : List V} {M : Nat} (h : Paired (fun (_ : Nat) v => ∃ z : Int, v = V.int z ∧ z.natAbs ≤ M) is l) : ∃ zs : List Int, l = zs.map V.int ∧ zs.length = is.length ∧ ∀ z ∈ zs, z.natAbs ≤ M := by
  induction h with
  | nil => exact ⟨[], rfl, rfl, fun z hLen => by cases hLen⟩
  | cons r t ih =>
    obtain ⟨z, rfl, hLen⟩ := r
    obtain ⟨zs, rfl, hl, hb⟩ := ih
    exact ⟨z :: zs, rfl, by rw [List.length_cons, List.length_cons, hl], fun y hy => by
      rcases List.mem_cons.mp hy with rfl | hy
      · exact hLen
      · exact hb y hy⟩
theorem paired_set {α β : Type} {F : α → β → Prop} {x : α} {y : β} (r : F x y) : ∀ {xs : List α} {ys : List β} (i : Nat), Paired F xs ys → Paired F (xs.set i x) (ys.set i y)
  | _, _, _, .nil => .nil
  | _, _, 0, .cons _ t => .cons r t
  | _, _, i + 1, .cons q t => .cons q (paired_set r i t)
end Gm
namespace Gm
open PySem PySem.Spec PyProof.Rows L2
theorem piT {X : Cx} {e tg : Expr} {te : TE} (K : Frag) (hK : X.K = K) (he : PE X e te) : PI X tg e (iTup K te) := by subst hK; exact pi_tup he
theorem piL {X : Cx} {e tg : Expr} {te : TE} (K : Frag) (hK : X.K = K) (he : PE X e te) : PI X tg e (iList K te) := by subst hK; exact pi_list he
end Gm
namespace Gm
open PySem PySem.Spec PyProof.Rows L2
theorem slS_drop1 {K : Frag} {H : Hp} {a : Addr} {ws : List V} {Q : VK} (hs : Seq K H a ws) (h0 : 0 < ws.length) (q : ∀ p H', Same H H' → Seq K H' p (ws.drop 1) → Q (.ref p) H') : rSlS K (.ref a) (some 1) none H Q := by
  rcases hs with hs | hs
  · exact .inl ⟨a, ws, rfl, hs, fun p np => q p _ (same_upd np) (.inl (.inl (.inl (by rw [upd_same, show (1 : Int) = ((1 : Nat) : Int) from rfl, cut_drop]))))⟩
  · refine .inr ⟨a, ws, rfl, hs, fun e => ?_, fun p np => q p _ (same_upd np) (.inr (.inl (.inl (by rw [upd_same, show (1 : Int) = ((1 : Nat) : Int) from rfl, cut_drop]))))⟩
    have := e.1
    rw [show (1 : Int) = ((1 : Nat) : Int) from rfl, HT.sIx_nat] at this
    omega
end Gm
/-! The end of a law whose promise wants that nobody looks on (// of any size), with the script's bits. -/
namespace Gm
open PySem PySem.Spec PyProof.Rows L2
section
variable {P : Program} {w : World} {K : PySem.W.Frag} {h : Heap} {a : Addr} {o : Obj} {xs : List V}
/-- the heap in the proof's words: the script alone, if the module doesn't own it -/
def scr (K : PySem.W.Frag) (a : Addr) (o : Obj) (xs : List V) : Hp := fun b => if b = a ∧ K.lookup a = none then some (.frz o (.lst xs)) else none
theorem scr_some {b : Addr} {u : HO} (e : scr K a o xs b = some u) : b = a ∧ K.lookup a = none ∧ u = .frz o (.lst xs) := by
  unfold scr at e
  split at e
  · rename_i hh
    exact ⟨hh.1, hh.2, (Option.some.inj e).symm⟩
  · cases e
theorem scr_only : Only (scr K a o xs) := fun b => by
  cases e : scr K a o xs b with
  | none => exact .inl rfl
  | some u => exact .inr ⟨o, xs, by rw [(scr_some e).2.2]⟩
theorem scr_none {b : Addr} (n : b ≠ a) : scr K a o xs b = none := if_neg fun q => n q.1
variable (ha : h.get? a = some o)
include ha
theorem scr_other {b : Addr} {o' : Obj} (e : h.get? b = some o') (n : o'.cls ≠ o.cls ∨ ∃ es ep, o'.data = .dict es ep ∧ ∀ es ep, o.data ≠ .dict es ep) : scr K a o xs b = none := by
  refine scr_none fun z => ?_
  rw [z, ha] at e
  cases e
  rcases n with n | ⟨es, ep, e1, n⟩
  · exact n rfl
  · exact n es ep e1
theorem scr_ns (hd : ∀ es ep, o.data ≠ .dict es ep) {b : Addr} {m : Str → Option Value} (q : h.Ns b m) : (hidT h (scr K a o xs)).Ns b m := by
  obtain ⟨o', es, ep, e, d, r⟩ := q
  exact ⟨o', es, ep, hidT_get e (scr_other ha e (.inr ⟨es, ep, d, hd⟩)), d, r⟩
theorem scr_in (X : K.In h) : K.In (hidT h (scr K a o xs)) := fun b o' e => hidT_get (X b o' e) (by
  cases q : scr K a o xs b with
  | none => rfl
  | some u =>
    obtain ⟨rfl, n, _⟩ := scr_some q
    rw [n] at e
    cases e)
theorem scr_seer (hd : ∀ es ep, o.data ≠ .dict es ep) (hc : o.cls ≠ .type "module") (x : h.NoSeer) : (hidT h (scr K a o xs)).NoSeer where
  statics := let ⟨mc, q, r⟩ := x.statics; ⟨mc, scr_ns ha hd q, r⟩
  mods := let ⟨mc, q, r⟩ := x.mods; ⟨mc, scr_ns ha hd q, r⟩
  imp := let ⟨mc, q, r⟩ := x.imp; ⟨mc, scr_ns ha hd q, r⟩
  main := let ⟨mg, bm, ob, q, r, e, c, d⟩ := x.main; ⟨mg, bm, ob, scr_ns ha hd q, r, hidT_get e (scr_other ha e (.inl fun z => hc (z.symm.trans c))), c, d⟩
end
theorem law_callN {P : Program} {w : World} {K : PySem.W.Frag} {mg mb : Str → Option Value} {k : Nat} {fa a : Addr} {fd : FuncData} {x : Str} {sp : Sp} {s₁ : Shared} {vs : List Value} {ns : List Int}
    (X : K.In s₁.heap) (hns : s₁.heap.Ns mainGlobals mg) (hb : s₁.heap.Ns builtinsNs mb) (hbb : ∀ x : Str, x ≠ "__name__" → mb x = bootBuiltins x) (hlim : s₁.heap.NoLimit) (hseer : s₁.heap.NoSeer) (hg : s₁.gens = #[])
    (ha : s₁.heap.get? a = some { cls := .type "list", data := .seq vs.toArray }) (hi : IntsAre vs ns) (hl : ns.length ≤ sizeLine) (hr : Room k callerA)
    (F : ∀ base : Heap, K.In base → base.Ns mainGlobals mg → base.NoSeer → FnOk P w K mg base CX0 k fa fd [x] sp) (hbind : ∀ (s : Shared) (u : Value), BindsTo s fd ⟨[u], []⟩ [(x, u)])
    (hsp : ∀ H : Hp, Only H → SqL K H a (ns.map V.int) → sp [.ref a] H (fun v _ => v = .bl true) fun _ _ _ => False) :
    codeAny (model P w) callerA (.call (.ref fa) ⟨[.ref a], []⟩) (fun r s' => r = .ok (.ret (.bool true)) ∧ OldK s₁.heap s'.heap ∧ s'.os = s₁.os ∧ AllBare s'.gens) s₁ := by
  have hd : ∀ es ep, ({ cls := .type "list", data := .seq vs.toArray } : Obj).data ≠ .dict es ep := fun es ep z => by cases z
  have rv := vals_ints hi
  generalize hHdef : scr K a { cls := .type "list", data := .seq vs.toArray } (ns.map V.int) = H
  have hO : Only H := hHdef ▸ scr_only
  have hSq : SqL K H a (ns.map V.int) := by
    cases hk : K.lookup a with
    | none => exact .inl (.inr ⟨_, by rw [← hHdef]; exact if_pos ⟨rfl, hk⟩⟩)
    | some o =>
      have e := X a o hk
      rw [ha] at e
      cases e
      exact .inr ⟨_, vs.toArray, _, hk, rfl, rfl, rfl, by rw [List.size_toArray, hi.length]; exact hl, by simpa using rv⟩
  have hok : HOk P w H s₁.heap := fun b u z => by
    rw [← hHdef] at z
    obtain ⟨rfl, _, rfl⟩ := scr_some z
    exact ⟨ha, by rw [List.length_map]; exact hl, vs, _, rv, ha⟩
  have hIn : K.In (hidT s₁.heap H) := hHdef ▸ scr_in ha X
  have hNs : ∀ {b : Addr} {m : Str → Option Value}, s₁.heap.Ns b m → (hidT s₁.heap H).Ns b m := fun q => hHdef ▸ scr_ns ha hd q
  have hSr : (hidT s₁.heap H).NoSeer := hHdef ▸ scr_seer ha hd (fun z => absurd (Value.type.inj z) (by decide)) hseer
  have e0 : Env0 P w K mg (hidT s₁.heap H) callerA [] s₁ H :=
    ⟨rfl, ⟨hIn, hNs hns, ⟨mb, hNs hb, hbb⟩, let ⟨mc, h1, h2⟩ := hlim; ⟨mc, hNs h1, h2⟩⟩, fun b o e => of_hidT e, Nat.le_of_eq (hidT_size _ _), trivial, (fun b hb => nomatch (show b ∈ ([] : List Addr) from hb)), hok, .of_eq hg⟩
  have main := (F _ hIn (hNs hns) hSr).run callerA [] s₁ H ⟨[.ref a], []⟩ [.ref a] [.ref a] _ _ hr e0 (hbind s₁ (.ref a)) (.cons rfl .nil) (hsp H hO hSq)
  refine codeAny_mono main fun r s' q => ?_
  match r, q with
  | .error e, q => exact q.elim
  | .ok .next, q => exact False.elim q
  | .ok .brk, q => exact False.elim q
  | .ok .cont, q => exact False.elim q
  | .ok (.ret u), q =>
    obtain ⟨v, H', os, bare, un, hok', rr, qv⟩ := q
    cases (show v = .bl true from qv)
    cases (show u = Value.bool true from rr)
    refine ⟨rfl, OldK.of_keep fun b o e => ?_, os, bare⟩
    cases hb' : H b with
    | none => exact un.keep b o e hb' (fun z => nomatch (show b ∈ ([] : List Addr) from z)) (by simp)
    | some u =>
      obtain ⟨ob, l, z⟩ := (hO b).resolve_left (by rw [hb']; simp)
      have e1 := (hok b _ z).1
      rw [e] at e1
      cases e1
      exact (hok' b _ (un.frzs b _ _ z)).1
theorem walk_ofN {l : PySem.W.OpenLaw} {n k : Nat} {q : Program} {loose : List Str} {XP : (Str → Option Value) → Heap → Prop} {YP : World → Heap → Prop} {d : DefRec} {K : Params → PySem.W.Frag} {sp : PySem.W.Frag → Sp} {x : Str}
    (hn : l.most = some n) (hn2 : n ≤ sizeLine) (hdf : d.params.defaults = []) (hr : Room k callerA) (hq : importsNone q = true)
    (hY : ∀ (w : World) (h : Heap), YP w h → (K w.params).In h)
    (F : ∀ (w : World) (mg : Str → Option Value) (fa : Addr) (h : Heap), YP w h → (K w.params).In h → h.Ns mainGlobals mg → mg d.name = some (.ref fa) →
      ∃ fd : FuncData, (∀ (s : Shared) (u : Value), BindsTo s fd ⟨[u], []⟩ [(x, u)]) ∧
        ∀ base : Heap, (K w.params).In base → base.Ns mainGlobals mg → base.NoSeer → FnOk l.prog w (K w.params) mg base CX0 k fa fd [x] (sp (K w.params)))
    (hsp : ∀ (K : PySem.W.Frag) (H : Hp) (a : Addr) (ns : List Int), ns.length ≤ n → (∀ z ∈ ns, Builtin.Int.intBits z ≤ 1048576) → SqL K H a (ns.map V.int) → sp K [.ref a] H (fun v _ => v = .bl true) fun _ _ _ => False) :
    PySem.W.WalkO q loose XP YP l.row.toRowW d [] (fun f vs => PySem.call f vs) := by
  refine Att.attach_callB hn hdf fun w s₀ s₁ mg mb fa o pm cd doc a vs ns G Y ho hd hcd hmg hobj hints hlen hbits hg => ?_
  have X := hY w _ Y
  obtain ⟨fd, hb, hF⟩ := F w mg fa _ Y X G.T.g hmg
  exact law_callN X G.T.g G.T.b G.T.builtins G.T.nolimit (G.T.seer hq) hg hobj hints (Nat.le_trans hlen hn2) hr hF hb fun H _ hS => hsp _ H a ns hlen hbits hS
end Gm
/-! != of an own class that has only its own == -/
namespace Gm
open PySem PySem.Spec PyProof.Rows L2
section
variable {prog : Program} {w : World} {A : Around} {E : Value → Shared → Prop} {s : Shared} {K : PySem.W.Frag} {x y C f : Addr} {ox oy : Obj} {od od' : Option Obj}
/-- the end of the def's call, turned -/
abbrev NotBack (Q : Value → Shared → Prop) : Value → Shared → Prop := fun v s' => ∃ b, v = Value.bool b ∧ Q (.bool (!b)) s'
theorem objNe_body {Q : Fin → Shared → Prop} (X : K.In s.heap) (J : PySem.W.InstAt s.heap x ox C od) (hs : PySem.W.findIn K (.ref C) "__eq__" = some (some (.ref f))) (hf : PySem.W.isFn K (.ref f) = true) (hu : A.units < cLine)
    (h : wpAny (model prog w) A (call (.ref f) [.ref x, .ref y]) (fun v s' => ∃ b, v = Value.bool b ∧ Q (.done (.ret (.bool (!b)))) s') E s) : wpAny (model prog w) A (Builtin.«object.__ne__» ⟨[.ref x, .ref y], []⟩) Q E s := by
  unfold Builtin.«object.__ne__»
  repeat (first
    | with_reducible refine wpAny_cRoomFor hu ?_
    | (refine wpAny_bind (m := callSpecialIfBound? (.ref x) (Str.ofString "__eq__") [.ref y]) (PySem.W.ifBound_K X J hs hf (wpAny_mono h (fun v s' hv => ?_) fun _ _ e => e))
       obtain ⟨b, rfl, hq⟩ := hv
       repeat (first | exact hq | exact wpAny_pure hq | exact wpAny_truthy_bool hq | (refine wpAny_bind (m := truthy (.bool _)) (wpAny_truthy_bool ?_)) | wp_step))
    | wp_step)
theorem objNe_call {Q : Value → Shared → Prop} (X : K.In s.heap) (J : PySem.W.InstAt s.heap x ox C od) (hm : PySem.W.mroIn K C (.type "object") = some true) (hs : PySem.W.findIn K (.ref C) "__eq__" = some (some (.ref f))) (hf : PySem.W.isFn K (.ref f) = true) (hu : A.units + 1 < cLine)
    (h : wpAny (model prog w) A.in1 (call (.ref f) [.ref x, .ref y]) (NotBack Q) E s) : wpAny (model prog w) A (call (.builtin "object.__ne__") [.ref x, .ref y]) Q E s := by
  refine wpAny_call (codeAny_call_builtin F.cmp_object.ne.plain F.cmpEntry_ne (PySem.W.check_slot F.cmpKind_ne F.cmpSplit_ne (J.type.andThen (PySem.W.looks_mroIn X hm)) (F.cmpArgs_ne _ _) ?_))
  exact objNe_body X J hs hf hu h
theorem objNe_bound {args : List Value} {Q : Option Value → Shared → Prop} (X : K.In s.heap) (J : PySem.W.InstAt s.heap x ox C od) (hn : PySem.W.findIn K (.ref C) "__ne__" = some (some (.builtin "object.__ne__")))
    (h : wpAny (model prog w) A (call (.builtin "object.__ne__") (.ref x :: args)) (fun v => Q (some v)) E s) : wpAny (model prog w) A (callSpecialIfBound? (.ref x) "__ne__" args) Q E s := by
  have last : wpAny (model prog w) A (call (.builtin "object.__ne__") ([.ref x] ++ args) >>= fun v => pure (some v)) Q E s := wpAny_bind (wpAny_mono h (fun _ _ z => wpAny_pure z) fun _ _ z => z)
  have bnd := F.cmp_object.ne.bind (.ref x)
  simp only [callSpecialIfBound?, bindSpecialIfBound?]
  refine wpAny_holding (wpAny_bind (wpAny_bind (wpAny_bind (J.type.here ((PySem.W.looks_findIn X hn).here (wpAny_bind (wpAny_askSetting (wpAny_ite ?_))))))))
  split
  · exact wpAny_bind (wpAny_of_eq (F.cmp_object.ne.bind _) (wpAny_pure (by exact last)))
  · exact wpAny_tryCatch (wpAny_bind (wpAny_of_eq (F.cmp_object.ne.bind _) (wpAny_pure (by exact last))))
theorem cmpNe_K {Q : Value → Shared → Prop} (X : K.In s.heap) (J : PySem.W.InstAt s.heap x ox C od) (J' : PySem.W.InstAt s.heap y oy C od') (hm : PySem.W.mroIn K C (.type "object") = some true)
    (hn : PySem.W.findIn K (.ref C) "__ne__" = some (some (.builtin "object.__ne__"))) (hs : PySem.W.findIn K (.ref C) "__eq__" = some (some (.ref f))) (hf : PySem.W.isFn K (.ref f) = true) (hu : A.units + 1 < cLine)
    (h : wpAny (model prog w) A.in1 (call (.ref f) [.ref x, .ref y]) (NotBack Q) E s) : wpAny (model prog w) A (compareOp .NotEq (.ref x) (.ref y)) Q E s := by
  show wpAny (model prog w) A (richCompare .NotEq (.ref x) (.ref y)) Q E s
  have one : wpAny (model prog w) A (tryCompare (.ref x) "__ne__" (.ref y)) (fun r s' => ∃ v, r = some v ∧ Q v s') E s := by
    unfold tryCompare
    refine wpAny_bind (objNe_bound X J hn (objNe_call X J hm hs hf hu (wpAny_mono h (fun v s' hv => ?_) fun _ _ e => e)))
    obtain ⟨b, rfl, hq⟩ := hv
    exact ⟨b, rfl, wpAny_pure ⟨_, rfl, hq⟩⟩
  unfold richCompare
  rw [cmpInfo_NotEq]
  simp only [oneThing_ref]
  refine wpAny_holding (wpAny_bind (wpAny_cRoomFor (by omega) ?_))
  refine wpAny_bind (J.type.here (wpAny_bind (J'.type.here ?_)))
  rw [show (Value.ref C != Value.ref C) = false from by simp]
  simp only [Bool.false_eq_true, if_false]
  refine wpAny_bind (wpAny_pure ?_)
  simp only [Bool.false_eq_true, if_false]
  refine wpAny_bind (wpAny_mono one (fun r s' z => ?_) fun _ _ e => e)
  obtain ⟨v, rfl, hq⟩ := z
  exact wpAny_pure hq
end
section
variable {X : Cx} {C f : Addr} {fd : FuncData} {ps : List Str} {CX : CXT} {k : Nat} {sp : Sp}
/-- a != b, both instances of one own class that defines == (its own def answers True or False) -/
def rOwnNe (C : Addr) (sp : Sp) (E : XK) : R2 := fun x y H Q => ∃ a b dx dy fs gs, x = .ref a ∧ y = .ref b ∧ H a = some (.ins C dx fs) ∧ H b = some (.ins C dy gs) ∧ sp [x, y] H (fun v H' => ∃ t, v = .bl t ∧ Q (.bl (!t)) H') E
theorem op_ownNe {E : XK} (hm : PySem.W.mroIn X.K C (.type "object") = some true) (hn : PySem.W.findIn X.K (.ref C) "__ne__" = some (some (.builtin "object.__ne__"))) (hs : PySem.W.findIn X.K (.ref C) "__eq__" = some (some (.ref f))) (hf : PySem.W.isFn X.K (.ref f) = true)
    (F : FnOk X.prog X.w X.K X.mg X.base CX k f fd ps sp) (hr : Room (k + 1) X.A) (hb : Binds X.K fd ps []) (hx : ∀ (H : Hp) (s : Shared) (e : Value) (s' : Shared), CX X.stack H s E e s' → False) : OpR X (compareOp .NotEq) (rOwnNe C sp E) := by
  intro pn sg σ H x y v u Q I rx ry h
  obtain ⟨a, b, dx, dy, fs, gs, rfl, rfl, ha, hb', q⟩ := h
  cases rx
  cases ry
  obtain ⟨od, J⟩ := inst_of I ha
  obtain ⟨od', J'⟩ := inst_of I hb'
  refine cmpNe_K I.kIn J J' hm hn hs hf (by have := hr.units; omega) ?_
  have hl := F.len _ _ _ _ q
  have rv : Vals [V.ref a, V.ref b] [Value.ref a, Value.ref b] := .cons rfl (.cons rfl .nil)
  refine wpAny_call (codeAny_mono (F.run X.A.in1 X.stack sg H ⟨[.ref a, .ref b], []⟩ [.ref a, .ref b] [.ref a, .ref b] _ E hr.in1 I.env0.in1 (by
    have := hb sg [.ref a, .ref b] I.kIn (by simpa using hl)
    simpa using this) rv q) fun r s' hq => ?_)
  cases r with
  | error e => exact (hx _ _ _ _ hq).elim
  | ok fl =>
    cases fl with
    | ret w =>
      obtain ⟨z, H', I', rz, t, ez, ex⟩ := I.after hq
      subst ez
      cases (show w = Value.bool t from rz)
      exact ⟨t, rfl, .bl (!t), H', I', rfl, ex⟩
    | next => exact False.elim hq
    | brk => exact False.elim hq
    | cont => exact False.elim hq
end
end Gm
/-! A tuple times 0, 1 or more. -/
namespace Gm
open PySem PySem.Spec PyProof.Rows L2
theorem mul_one_tup (l : Addr) (items : Array Value) (n : Nat) (dd : Option Addr) (sl : Array (Option Value)) (u : Tok) :
    Meets (Builtin.«tuple.__mul__» ⟨[.ref l, .int 1 u], []⟩) (fun _ R s => s.heap.get? l = some { cls := .type "tuple", dict := dd, data := .seq items n, slots := sl } ∧ R (.ok (.ret (Value.ref l))) s) :=
  .of_wp fun prog w A R s h => by
    obtain ⟨h0, g, d, tk, os⟩ := s
    obtain ⟨hGet, h⟩ := h
    have f1 := AutoSeq1.idx_int
    have c0 : (decide ((1 : Int) < -(2 ^ 63)) || decide ((1 : Int) ≥ 2 ^ 63)) = false := by decide
    have c1 : (items.isEmpty || (1 : Int) == 1) = true := by simp
    wp_walk using AutoSeq1.wpAny_loadPart' hGet
    repeat (first
      | (refine wpAny_ite_false (decide_eq_false (by rw [c0]; exact Bool.false_ne_true)) ?_; wp_walk using AutoSeq1.wpAny_loadPart' hGet)
      | (refine wpAny_ite_true (decide_eq_true (by rw [c1])) ?_; wp_walk using AutoSeq1.wpAny_loadPart' hGet))
    exact ⟨_, rfl, h⟩
theorem mul_zero_tup (l : Addr) (items : Array Value) (n : Nat) (dd : Option Addr) (sl : Array (Option Value)) (u : Tok) (hi : items.isEmpty = false) :
    Meets (Builtin.«tuple.__mul__» ⟨[.ref l, .int 0 u], []⟩) (fun _ R s => s.heap.get? l = some { cls := .type "tuple", dict := dd, data := .seq items n, slots := sl } ∧
      R (.ok (.ret (Value.ref s.heap.objs.size))) { s with heap := s.heap.push { cls := Value.type "tuple", data := Data.seq #[] }, toks := s.toks }) :=
  .of_wp fun prog w A R s h => by
    obtain ⟨h0, g, d, tk, os⟩ := s
    obtain ⟨hGet, h⟩ := h
    have f1 := AutoSeq1.idx_int
    have c0 : (decide ((0 : Int) < -(2 ^ 63)) || decide ((0 : Int) ≥ 2 ^ 63)) = false := by decide
    have c1 : (items.isEmpty || (0 : Int) == 1) = false := by rw [hi]; decide
    have c2 : (decide ((0 : Int) ≤ 0) || items.isEmpty) = true := by simp
    wp_walk using AutoSeq1.wpAny_loadPart' hGet
    repeat (first
      | (refine wpAny_ite_false (decide_eq_false (by rw [c0]; exact Bool.false_ne_true)) ?_; wp_walk using AutoSeq1.wpAny_loadPart' hGet)
      | (refine wpAny_ite_false (decide_eq_false (by rw [c1]; exact Bool.false_ne_true)) ?_; wp_walk using AutoSeq1.wpAny_loadPart' hGet)
      | (refine wpAny_ite_true (decide_eq_true (by rw [c2])) ?_; wp_walk using AutoSeq1.wpAny_loadPart' hGet))
    exact ⟨_, rfl, h⟩
/-- xs * k for a tuple that is not empty, k from 0 on -/
def rRepA (K : Frag) : R2 := fun x y H Q => ∃ l k xs, x = .ref l ∧ y = .int k ∧ SqT K H l xs ∧ xs ≠ [] ∧ 0 ≤ k ∧ k ≤ 1000 ∧ xs.length ≤ 1000 ∧ (k = 1 → Q (.ref l) H) ∧ (k ≠ 1 → ∀ p, H p = none → Q (.ref p) (upd H p (.tup (List.replicate k.toNat xs).flatten)))
section
variable {X : Cx}
theorem op_repA : OpR X (binaryOp .Mult) (rRepA X.K) := by
  intro pn sh σ H x y v u Q I rx ry h
  obtain ⟨l, k, xs, rfl, rfl, hT, hne, h1, h2, hz, q1, q2⟩ := h
  by_cases k2 : 2 ≤ k
  · exact op_repT pn sh σ H _ _ _ _ Q I rx ry ⟨l, k, xs, rfl, rfl, hT, hne, k2, h2, hz, q2 (by omega)⟩
  cases rx
  obtain ⟨t, rfl⟩ := ry
  obtain ⟨vals, r, ⟨⟨cls, dd, data, sl⟩, ho, hc, n, hd⟩, hs⟩ := I.tuple hT
  simp only at hc hd
  subst hc hd
  have hi : vals.toArray.isEmpty = false := by
    cases vals with
    | nil => exact absurd (List.eq_nil_of_length_eq_zero r.length) hne
    | cons a b => rfl
  by_cases k1 : k = 1
  · subst k1
    refine wpAny_binaryOp_repeat_ref (T := "tuple") (U := "int") (by decide) ⟨_, ho, rfl⟩ (fun s' => typeIs_int s' 1 t) noFill_tuple_mul F.fills_int_mul F.slot_int_rmul repeat_tuple F.slot_int_index.lookup
      (call_meets F.slot_int_rmul (typeIs_int sh 1 t) F.entry_int_rmul (F.args_int_rmul_2 _ _) (int_rmul_tuple 1 t l vals.toArray n dd sl)
        ⟨ho, rfl, ⟨_, ho, rfl⟩, call_meets F.slot_tuple_mul ⟨_, ho, rfl⟩ F.entry_tuple_mul (F.args_tuple_mul_2 _ _) (mul_one_tup l vals.toArray n dd sl t) ⟨ho, ?_⟩⟩)
    exact ⟨.ref l, H, I, rfl, q1 rfl⟩
  · obtain rfl : k = 0 := by omega
    refine wpAny_binaryOp_repeat_ref (T := "tuple") (U := "int") (by decide) ⟨_, ho, rfl⟩ (fun s' => typeIs_int s' 0 t) noFill_tuple_mul F.fills_int_mul F.slot_int_rmul repeat_tuple F.slot_int_index.lookup
      (call_meets F.slot_int_rmul (typeIs_int sh 0 t) F.entry_int_rmul (F.args_int_rmul_2 _ _) (int_rmul_tuple 0 t l vals.toArray n dd sl)
        ⟨ho, rfl, ⟨_, ho, rfl⟩, call_meets F.slot_tuple_mul ⟨_, ho, rfl⟩ F.entry_tuple_mul (F.args_tuple_mul_2 _ _) (mul_zero_tup l vals.toArray n dd sl t hi) ⟨ho, ?_⟩⟩)
    have q := q2 (by decide) sh.heap.objs.size (I.hok.fresh (Nat.le_refl _))
    refine ⟨.ref sh.heap.objs.size, _, I.laid (t' := sh.toks) (o := .tup []) (fun b ob q => Heap.get?_push_of_some _ q) (Nat.le_refl _) ⟨Nat.zero_le _, [], .nil, IsTup.new _ _⟩, rfl, q⟩
theorem repAK (K : Frag) (hK : X.K = K) : OpR X (binaryOp .Mult) (rRepA K) := by subst hK; exact op_repA
end
end Gm
/-! Making an object, and an own operator, that may raise: what is raised is wished for at the caller's slots. -/
namespace Gm
open PySem PySem.Spec PyProof.Rows L2
section
variable {X : Cx} {C f : Addr} {fd : FuncData} {ps : List Str} {CX : CXT} {k : Nat} {sp : Sp} {E : L2.St → XK} {x : Str} {p pos : Pos} {e : Expr} {es : List Expr} {t : TA} {dvs : List V} {ds : List Value}
def tMakeS (C : Addr) (sp : Sp) (dvs : List V) (E : L2.St → XK) (t : TA) : TE := fun σ H Q => t σ H fun vs H1 => ∀ x dx, H1 x = none → H1 dx = none → dx ≠ x → sp (.ref x :: (vs ++ dvs)) (upd (upd H1 dx (.own x)) x (.ins C dx [])) (fun v H2 => v = .non ∧ Q (.ref x) H2) (E σ)
theorem pe_makeS (M : Mk X.K C f) (F : FnOk X.prog X.w X.K X.mg X.base CX k f fd ps sp) (hr : Room (k + 1) X.A) (hg : Gl X x) (hm : X.mg x = some (.ref C)) (hb : Binds X.K fd ps ds) (hd : Vals dvs ds) (hx : ∀ σ, PassesAt CX X σ (E σ))
    (ha : PA X (e :: es) t) (hdb : (x == ("__debug__" : Str)) = false := by decide) (he : starEach (e :: es) X.env = (false, eval e X.env) :: starEach es X.env := by rfl) (hpl : (backTo pos (starEach es X.env)).any (·.1) = false := by rfl) :
    PE X (.Call (.Name x p) (e :: es) [] pos) (tMakeS C sp dvs E t) := by
  refine ⟨fun pn sh σ H Q I h => ?_⟩
  refine wpAny_Call_Name_kw (ld_glob I hg hm ?_ hdb)
  refine PySem.W.callWith_K (h₀ := X.base) I.ok.mod.kin M.kp (thn (ha.run pos pn sh σ H _ I h) fun argv sA ⟨vs, H1, J, rel, q⟩ => ⟨J.kIn, ?_⟩) he hpl
  have q0 := q (sA.heap.objs.size + 1) sA.heap.objs.size (J.hok.fresh (Nat.le_succ _)) (J.hok.fresh (Nat.le_refl _)) (Nat.ne_of_lt (Nat.lt_succ_self _))
  have J2 := Inv.made (C := C) J
  have rel2 : Vals (V.ref (sA.heap.objs.size + 1) :: (vs ++ dvs)) (Value.ref (sA.heap.objs.size + 1) :: (argv ++ ds)) := .cons rfl (rel.append hd)
  have hl : (Value.ref (sA.heap.objs.size + 1) :: argv ++ ds).length = ps.length := by
    have el := rel2.length
    rw [F.len _ _ _ _ q0] at el
    exact el.symm
  have main := F.run _ X.stack _ _ ⟨Value.ref (sA.heap.objs.size + 1) :: argv, []⟩ (Value.ref (sA.heap.objs.size + 1) :: (argv ++ ds)) _ _ (E σ) (hr.make C argv []) (J2.env0.make C argv []) (hb _ (Value.ref (sA.heap.objs.size + 1) :: argv) J2.kIn hl) rel2 q0
  refine wpAny_call (make_map (f := f) J.kIn M.makes M.init (beq_iff_eq.mp M.fn) (codeAny_mono main fun r s' z => ?_))
  match r, z with
  | .error er, z => exact hx σ pn _ _ er s' J2 z
  | .ok (.ret u), z =>
    obtain ⟨v, H', J3, rv, ev, q3⟩ := J2.after z
    subst ev
    exact ⟨rv, ⟨V.ref (sA.heap.objs.size + 1), H', J3, rfl, q3⟩⟩
  | .ok .next, z => exact False.elim z
  | .ok .brk, z => exact False.elim z
  | .ok .cont, z => exact False.elim z
end
section
variable {X : Cx} {C f : Addr} {fd : FuncData} {ps : List Str} {CX : CXT} {k : Nat} {sp : Sp} {E : L2.St → XK} {a b : Expr} {ta tb : TE} {pos : Pos}
/-- a op b of one own class, where the def may raise -/
def tOpS (C : Addr) (sp : Sp) (E : L2.St → XK) (ta tb : TE) : TE := fun σ H Q => ta σ H fun x H1 => tb σ H1 fun y H2 => ∃ c d dx dy fs gs, x = .ref c ∧ y = .ref d ∧ H2 c = some (.ins C dx fs) ∧ H2 d = some (.ins C dy gs) ∧ sp [x, y] H2 Q (E σ)
theorem pe_opS {op : Operator} (hc : PySem.W.selfFirst X.K C = true) (hs : PySem.W.findIn X.K (.ref C) (PySem.dunder op.info.2) = some (some (.ref f))) (hf : PySem.W.isFn X.K (.ref f) = true)
    (F : FnOk X.prog X.w X.K X.mg X.base CX k f fd ps sp) (hr : Room k X.A) (hb : Binds X.K fd ps []) (hx : ∀ σ, PassesAt CX X σ (E σ)) (ha : PE X a ta) (hb' : PE X b tb) : PE X (.BinOp a op b pos) (tOpS C sp E ta tb) := by
  refine ⟨fun pn sh σ H Q I h => ?_⟩
  refine wpAny_BinOp (binT ha hb' I h fun v u s2 x y H2 I2 rx ry q => ?_)
  obtain ⟨c, d, dx, dy, fs, gs, rfl, rfl, hc1, hd1, q⟩ := q
  cases rx
  cases ry
  obtain ⟨od, J⟩ := inst_of I2 hc1
  obtain ⟨od', J'⟩ := inst_of I2 hd1
  obtain ⟨m, hF⟩ := I2.fr
  refine PySem.W.binop_K hF I2.ok.mod.kin J J'.type hc hs hf ?_
  refine wpAny_mono (run_fnS (us := [.ref c, .ref d]) (vs := [.ref c, .ref d]) F hr hb (hx σ) I2 (.cons rfl (.cons rfl .nil)) q) (fun w s' z => ?_) fun _ _ z => z
  obtain ⟨zR, HR, IR, relZ, postZ⟩ := z
  exact SlX.cmpback relZ ⟨zR, HR, IR, relZ, postZ⟩
end
end Gm
/-! list(zip(xs, ys)) of two tuples. -/
namespace Gm
open PySem PySem.Spec PyProof.Rows L2 RZ
abbrev ZipF (h : Heap) (z TI TO T0 : Addr) (f : Bool) : Prop :=
  h.get? z = some { cls := .type "zip", dict := none, data := .fields #[rawInt T0, .bool f, .bool false, .ref TI, .ref TO], slots := #[] }
section
variable {prog : Program} {w : World} {A : Around} {E : Value → Shared → Prop} {s : Shared}
theorem zip_busy {z TI TO T0 : Addr} {f : Bool} {oT : Obj} {Q : Bool → Shared → Prop} (hz : ZipF s.heap z TI TO T0 f) (hT : s.heap.get? T0 = some oT)
    (q : ∀ h', ZipF h' z TI TO T0 true → Heap.SameBut z s.heap h' → Q false { s with heap := h' }) : wpAny (model prog w) A (Builtin.SmallTypes.ownedTupleIsFree (.ref z)) Q E s := by
  unfold Builtin.SmallTypes.ownedTupleIsFree
  refine wpAny_bind (wpAny_field hz rfl (x := rawInt T0) rfl ?_)
  show wpAny _ _ (loadIfAlive ((T0 : Int)).toNat >>= _) _ _ _
  rw [Int.toNat_natCast]
  refine wpAny_bind (PySem.W.kdx_alive hT ?_)
  simp only [Option.isNone_some, Bool.false_eq_true, if_false]
  refine wpAny_bind (wpAny_field hz rfl (x := .bool f) rfl ?_)
  cases f with
  | false =>
    rw [if_pos (by decide)]
    refine wpAny_bind (wpAny_setField_rec hz (by simp) fun h1 hz1 hs1 => wpAny_pure (q h1 hz1 hs1))
  | true =>
    rw [if_neg (by decide)]
    exact wpAny_pure (q s.heap hz ⟨rfl, fun _ _ => rfl⟩)
theorem zipT_busy_item {z TI TO T0 i1 i2 l1 l2 : Addr} {f : Bool} {oT : Obj} {k1 k2 : Nat} {xs ys : Array Value} {x y : Value} {Q : Value → Shared → Prop} (D : ZipApart z TI TO i1 i2 l1 l2)
    (hz : ZipF s.heap z TI TO T0 f) (hT : s.heap.get? T0 = some oT) (hTI : IsPair s.heap TI (.ref i1) (.ref i2))
    (h1 : s.heap.IsTupleIter i1 l1 k1) (h2 : s.heap.IsTupleIter i2 l2 k2) (hl1 : s.heap.IsTuple l1 xs) (hl2 : s.heap.IsTuple l2 ys) (hx : xs[k1]? = some x) (hy : ys[k2]? = some y)
    (hQ : ∀ h', ZipF h' z TI TO T0 true → h'.IsTupleIter i1 l1 (k1 + 1) → h'.IsTupleIter i2 l2 (k2 + 1) → IsPair h' s.heap.objs.size x y → h'.objs.size = s.heap.objs.size + 1 →
      (∀ c o, c ≠ z → c ≠ i1 → c ≠ i2 → s.heap.get? c = some o → h'.get? c = some o) → Q (.ref s.heap.objs.size) { s with heap := h' }) :
    wpAny (model prog w) A (Builtin.«zip.__next__» ⟨[.ref z], []⟩) (fun fin s' => ∃ v, fin = .done (.ret v) ∧ Q v s') E s := by
  show wpAny _ _ (field (.ref z) 2 >>= _) _ _ _
  refine wpAny_bind (wpAny_field hz rfl (x := .bool false) rfl ?_)
  show wpAny _ _ (field (.ref z) 3 >>= _) _ _ _
  refine wpAny_bind (wpAny_field hz rfl (x := .ref TI) rfl ?_)
  refine wpAny_bind (wpAny_seqItems hTI rfl ?_)
  show wpAny _ _ (Builtin.SmallTypes.ownedTupleIsFree (.ref z) >>= _) _ _ _
  refine wpAny_bind (zip_busy hz hT fun g1 hz1 hs1 => ?_)
  simp only [Bool.false_eq_true, if_false]
  refine wpAny_bind ?_
  rw [← Array.forIn_toList]
  simp only [List.forIn_cons, List.forIn_nil]
  refine wpAny_bind (wpAny_bind (wpAny_holding ?_))
  show wpAny _ _ (Builtin.SmallTypes.nextOf (.ref i1) >>= _) _ _ _
  refine wpAny_bind (nextOf_tuple_item (h1.extBut hs1.extBut D.i1z) (hl1.extBut hs1.extBut D.l1z) hx fun g2 h12 hs2 => wpAny_pure ?_)
  refine wpAny_pure ?_
  dsimp only
  refine wpAny_bind (wpAny_bind (wpAny_holding ?_))
  show wpAny _ _ (Builtin.SmallTypes.nextOf (.ref i2) >>= _) _ _ _
  refine wpAny_bind (nextOf_tuple_item ((h2.extBut hs1.extBut D.i2z).extBut hs2.extBut D.i12.symm) ((hl2.extBut hs1.extBut D.l2z).extBut hs2.extBut D.l2i1) hy fun g3 h23 hs3 => wpAny_pure ?_)
  refine wpAny_pure ?_
  dsimp only
  refine wpAny_pure ?_
  dsimp only
  refine wpAny_bind (wpAny_newTuple ?_ (by show 2 ≤ sizeLine; decide))
  have hsz : g3.objs.size = s.heap.objs.size := by rw [hs3.1, hs2.1, hs1.1]
  have hz3 : ZipF g3 z TI TO T0 true := hs3.extBut _ _ D.i2z.symm (hs2.extBut _ _ D.i1z.symm hz1)
  have hk3 : ∀ c o, c ≠ z → c ≠ i1 → c ≠ i2 → s.heap.get? c = some o → g3.get? c = some o := fun c o c1 c2 c3 e => hs3.extBut _ _ c3 (hs2.extBut _ _ c2 (hs1.extBut _ _ c1 e))
  have h13 : g3.IsTupleIter i1 l1 (k1 + 1) := h12.extBut hs3.extBut D.i12
  refine wpAny_pure ⟨_, rfl, ?_⟩
  show Q (.ref g3.objs.size) _
  have hT3 : IsPair (g3.push { cls := .type "tuple", data := .seq #[x, y] }) g3.objs.size x y := Heap.get?_push_size _ rfl
  have up : ∀ c o, g3.get? c = some o → (g3.push { cls := .type "tuple", data := .seq #[x, y] }).get? c = some o := fun c o e => Heap.get?_push_of_some _ e
  rw [hsz] at hT3 ⊢
  exact hQ _ (up _ _ hz3) (h13.at fun o e => up _ o e) (h23.at fun o e => up _ o e) hT3 (by rw [Heap.size_push, hsz]) fun c o c1 c2 c3 e => up c o (hk3 c o c1 c2 c3 e)
theorem zipT_busy_end {z TI TO T0 i1 i2 l1 l2 : Addr} {f : Bool} {oT : Obj} {k1 : Nat} {xs : Array Value} {Q : Fin → Shared → Prop} (hh : A.handled = none) (D : ZipApart z TI TO i1 i2 l1 l2)
    (hz : ZipF s.heap z TI TO T0 f) (hT : s.heap.get? T0 = some oT) (hTI : IsPair s.heap TI (.ref i1) (.ref i2))
    (h1 : s.heap.IsTupleIter i1 l1 k1) (hl1 : s.heap.IsTuple l1 xs) (hend : xs[k1]? = none)
    (hE : ∀ h' e, (∀ c o, c ≠ z → c ≠ i1 → s.heap.get? c = some o → h'.get? c = some o) → (∃ o, h'.get? e = some o ∧ o.cls = .type "StopIteration") → E (.ref e) { s with heap := h' }) :
    wpAny (model prog w) A (Builtin.«zip.__next__» ⟨[.ref z], []⟩) Q E s := by
  show wpAny _ _ (field (.ref z) 2 >>= _) _ _ _
  refine wpAny_bind (wpAny_field hz rfl (x := .bool false) rfl ?_)
  show wpAny _ _ (field (.ref z) 3 >>= _) _ _ _
  refine wpAny_bind (wpAny_field hz rfl (x := .ref TI) rfl ?_)
  refine wpAny_bind (wpAny_seqItems hTI rfl ?_)
  show wpAny _ _ (Builtin.SmallTypes.ownedTupleIsFree (.ref z) >>= _) _ _ _
  refine wpAny_bind (zip_busy hz hT fun g1 hz1 hs1 => ?_)
  simp only [Bool.false_eq_true, if_false]
  refine wpAny_bind ?_
  rw [← Array.forIn_toList]
  simp only [List.forIn_cons, List.forIn_nil]
  refine wpAny_bind (wpAny_bind (wpAny_holding ?_))
  show wpAny _ _ (Builtin.SmallTypes.nextOf (.ref i1) >>= _) _ _ _
  refine wpAny_bind (nextOf_tuple_end hh (h1.extBut hs1.extBut D.i1z) (hl1.extBut hs1.extBut D.l1z) hend ?_)
  intro h' e ext he
  exact hE h' e (fun c o c1 c2 x => ext c o c2 (hs1.extBut c o c1 x)) he
/-- the zip's cells before its turn i -/
def ZS (h : Heap) (z TI TO i1 i2 l1 l2 : Addr) (i : Nat) : Prop :=
  IsPair h TI (.ref i1) (.ref i2) ∧ h.IsTupleIter i1 l1 i ∧ h.IsTupleIter i2 l2 i ∧ ((IsZip h z TI TO .none ∧ ∃ a b, IsPair h TO a b) ∨ ∃ T0 f oT, ZipF h z TI TO T0 f ∧ h.get? T0 = some oT)
theorem ZS.ty {z TI TO i1 i2 l1 l2 : Addr} {i : Nat} {h : Heap} (st : ZS h z TI TO i1 i2 l1 l2 i) : ∃ o, h.get? z = some o ∧ o.cls = .type "zip" := by
  obtain ⟨_, _, _, ⟨hz, _⟩ | ⟨_, _, _, hz, _⟩⟩ := st
  · exact ⟨_, hz, rfl⟩
  · exact ⟨_, hz, rfl⟩
theorem zip_item {z TI TO i1 i2 l1 l2 : Addr} {i : Nat} {xs ys : Array Value} {x y : Value} {Q : Option Value → Shared → Prop} (D : ZipApart z TI TO i1 i2 l1 l2) (st : ZS s.heap z TI TO i1 i2 l1 l2 i)
    (hl1 : s.heap.IsTuple l1 xs) (hl2 : s.heap.IsTuple l2 ys) (hx : xs[i]? = some x) (hy : ys[i]? = some y)
    (hQ : ∀ h', ZS h' z TI TO i1 i2 l1 l2 (i + 1) → IsPair h' s.heap.objs.size x y → h'.objs.size = s.heap.objs.size + 1 →
      (∀ c o, c ≠ z → c ≠ TO → c ≠ i1 → c ≠ i2 → s.heap.get? c = some o → h'.get? c = some o) → Q (some (.ref s.heap.objs.size)) { s with heap := h' }) :
    wpAny (model prog w) A (pyNext (.ref z)) Q E s := by
  have hTy : s.TypeIs (.ref z) "zip" := st.ty
  obtain ⟨hTI, h1, h2, ⟨hz, a, b, hTO⟩ | ⟨T0, f, oT, hz, hT0⟩⟩ := st
  · refine pyNext_zipT_item D hz hTI hTO h1 h2 hl1 hl2 hx hy fun h' z' TO' h1' h2' hT hsz hk => ?_
    exact hQ h' ⟨hk _ _ D.TIz D.TITO D.TIi1 D.TIi2 hTI, h1', h2', .inr ⟨s.heap.objs.size, false, _, z', hT⟩⟩ hT hsz hk
  · unfold pyNext
    refine wpAny_bind (wpAny_attempt (wpAny_callSpecial?_slot (name := Str.ofString "__next__") hTy F.slot_zip_next (wpAny_call_entry F.slot_zip_next hTy F.entry_zip_next
      (zipT_busy_item D hz hT0 hTI h1 h2 hl1 hl2 hx hy fun h' z' h1' h2' hT hsz hk => wpAny_pure ?_) (F.args_zip_next_1 _))))
    have h0 : T0 ≠ z ∨ T0 = z := (Decidable.em (T0 = z)).symm
    have alive : ∃ o', h'.get? T0 = some o' := by
      by_cases e1 : T0 = z
      · exact ⟨_, by rw [e1]; exact z'⟩
      · by_cases e2 : T0 = i1
        · obtain ⟨o, ho, _⟩ := h1'
          exact ⟨o, by rw [e2]; exact ho⟩
        · by_cases e3 : T0 = i2
          · obtain ⟨o, ho, _⟩ := h2'
            exact ⟨o, by rw [e3]; exact ho⟩
          · exact ⟨_, hk _ _ e1 e2 e3 hT0⟩
    obtain ⟨o', ho'⟩ := alive
    exact hQ h' ⟨hk _ _ D.TIz D.TIi1 D.TIi2 hTI, h1', h2', .inr ⟨T0, true, o', z', ho'⟩⟩ hT hsz fun c o c1 _ c3 c4 e => hk c o c1 c3 c4 e
theorem zip_done {z TI TO i1 i2 l1 l2 : Addr} {i : Nat} {xs ys : Array Value} {Q : Option Value → Shared → Prop} (hh : A.handled = none) (D : ZipApart z TI TO i1 i2 l1 l2) (st : ZS s.heap z TI TO i1 i2 l1 l2 i)
    (hl1 : s.heap.IsTuple l1 xs) (hl2 : s.heap.IsTuple l2 ys) (hend : xs[i]? = none)
    (hQ : ∀ h', (∀ c o, c ≠ z → c ≠ TO → c ≠ i1 → c ≠ i2 → s.heap.get? c = some o → h'.get? c = some o) → Q none { s with heap := h' }) :
    wpAny (model prog w) A (pyNext (.ref z)) Q E s := by
  have hTy : s.TypeIs (.ref z) "zip" := st.ty
  obtain ⟨hTI, h1, h2, ⟨hz, a, b, hTO⟩ | ⟨T0, f, oT, hz, hT0⟩⟩ := st
  · exact pyNext_zipT_end hh D hz hTI hTO h1 h2 hl1 hl2 (.inl hend) hQ
  · unfold pyNext
    refine wpAny_bind (wpAny_attempt (wpAny_callSpecial?_slot (name := Str.ofString "__next__") hTy F.slot_zip_next (wpAny_call_entry F.slot_zip_next hTy F.entry_zip_next
      (zipT_busy_end hh D hz hT0 hTI h1 hl1 hend fun h' e hk he => ?_) (F.args_zip_next_1 _))))
    obtain ⟨o, ho, hc⟩ := he
    refine wpAny_bind (wpAny_isInstance (T := "StopIteration") (b := true) ⟨o, ho, hc⟩ isSubtype_stop ?_)
    exact wpAny_pure (hQ _ fun c o c1 _ c3 _ e => hk c o c1 c3 e)
/-- the pairs that were made, each apart -/
structure Pairs (xs ys : Array Value) (lo : Addr) (h : Heap) (as : List Addr) : Prop where
  rise : as.Pairwise (· < ·)
  above : ∀ a ∈ as, lo ≤ a
  pairs : ∀ (j : Nat) (a : Addr), as[j]? = some a → ∃ x y, xs[j]? = some x ∧ ys[j]? = some y ∧ IsPair h a x y
theorem ZS.keep {z TI TO i1 i2 l1 l2 : Addr} {i : Nat} {h h' : Heap} {S : Addr} (st : ZS h z TI TO i1 i2 l1 l2 i) (hS : S ≠ z ∧ S ≠ TI ∧ S ≠ TO ∧ S ≠ i1 ∧ S ≠ i2) (hk : ∀ b o, b ≠ S → h.get? b = some o → h'.get? b = some o) (hSl : ∃ o, h'.get? S = some o) : ZS h' z TI TO i1 i2 l1 l2 i := by
  obtain ⟨n1, n2, n3, n4, n5⟩ := hS
  obtain ⟨hTI, h1, h2, q⟩ := st
  refine ⟨hk _ _ n2.symm hTI, h1.at fun o e => hk _ o n4.symm e, h2.at fun o e => hk _ o n5.symm e, ?_⟩
  rcases q with ⟨hz, a, b, hTO⟩ | ⟨T0, f, oT, hz, hT0⟩
  · exact .inl ⟨hk _ _ n1.symm hz, a, b, hk _ _ n3.symm hTO⟩
  · refine .inr ⟨T0, f, ?_⟩
    by_cases e : T0 = S
    · obtain ⟨o, ho⟩ := hSl
      exact ⟨o, hk _ _ n1.symm hz, by rw [e]; exact ho⟩
    · exact ⟨oT, hk _ _ n1.symm hz, hk _ _ e hT0⟩
theorem zip_loop {z TI TO i1 i2 l1 l2 S : Addr} {xs ys : Array Value} {R : Result → Shared → Prop} {lo : Addr} {h0 : Heap} (hh : A.handled = none) (D : ZipApart z TI TO i1 i2 l1 l2) (hS : S ≠ z ∧ S ≠ TI ∧ S ≠ TO ∧ S ≠ i1 ∧ S ≠ i2) (hSl : S ≠ l1 ∧ S ≠ l2) (hxy : xs.size = ys.size) (hn : xs.size ≤ sizeLine) (res : Value)
    (hlo : S < lo) (hfz : z < lo ∧ TO < lo ∧ i1 < lo ∧ i2 < lo)
    (hR : ∀ h' acc c as, (∀ b o, b ≠ S → b ≠ z → b ≠ TO → b ≠ i1 → b ≠ i2 → h0.get? b = some o → h'.get? b = some o) → h'.get? S = some { cls := .type "list", dict := none, data := .seq acc c, slots := #[] } → as.length = xs.size → Pairs xs ys lo h' as → acc.toList = as.map Value.ref → R (.ok (.ret res)) { s with heap := h' }) :
    ∀ (k i : Nat) (h : Heap) (c : Nat) (acc : Array Value) (as : List Addr), xs.size - i = k → i ≤ xs.size → ZS h z TI TO i1 i2 l1 l2 i → h.IsTuple l1 xs → h.IsTuple l2 ys → lo ≤ h.objs.size →
      (∀ b o, b ≠ S → b ≠ z → b ≠ TO → b ≠ i1 → b ≠ i2 → h0.get? b = some o → h.get? b = some o) → h.get? S = some { cls := .type "list", dict := none, data := .seq acc c, slots := #[] } → acc.toList = as.map Value.ref → as.length = i → Pairs xs ys lo h as →
      codeAny (model prog w) A (.builtin "list.extend.loop" ⟨[.ref S, .ref z, res], []⟩) R { s with heap := h } := by
  obtain ⟨n1, n2, n3, n4, n5⟩ := id hS
  intro k
  induction k with
  | zero =>
    intro i h c acc as hk hi st hl1 hl2 hls hkeep hSg hacc hal hG
    refine codeAny_builtin F.entry_extend_loop ?_
    rw [Around.under_plainId F.plain_extend_loop _]
    show wpAny _ A.in1 (pyNext (.ref z) >>= _) _ _ _
    refine wpAny_bind (zip_done (s := { s with heap := h }) (A := A.in1) hh D st hl1 hl2 (by simp; omega) fun h' he => ?_)
    have off : ∀ a ∈ as, a ≠ z ∧ a ≠ TO ∧ a ≠ i1 ∧ a ≠ i2 := fun a ha => by
      have d := hG.above a ha
      exact ⟨Nat.ne_of_gt (Nat.lt_of_lt_of_le hfz.1 d), Nat.ne_of_gt (Nat.lt_of_lt_of_le hfz.2.1 d), Nat.ne_of_gt (Nat.lt_of_lt_of_le hfz.2.2.1 d), Nat.ne_of_gt (Nat.lt_of_lt_of_le hfz.2.2.2 d)⟩
    refine wpAny_pure (hR h' acc c as (fun b o b1 b2 b3 b4 b5 e => he b o b2 b3 b4 b5 (hkeep b o b1 b2 b3 b4 b5 e)) (he S _ n1 n3 n4 n5 hSg) (by omega) ⟨hG.rise, hG.above, fun j a hj => ?_⟩ hacc)
    obtain ⟨x, y, e1, e2, e3⟩ := hG.pairs j a hj
    obtain ⟨q1, q2, q3, q4⟩ := off a (List.mem_of_getElem? hj)
    exact ⟨x, y, e1, e2, he a _ q1 q2 q3 q4 e3⟩
  | succ k ih =>
    intro i h c acc as hk hi st hl1 hl2 hls hkeep hSg hacc hal hG
    have hlt : i < xs.size := by omega
    have hsz : acc.size = i := by rw [← Array.length_toList, hacc, List.length_map, hal]
    refine codeAny_builtin F.entry_extend_loop ?_
    rw [Around.under_plainId F.plain_extend_loop _]
    show wpAny _ A.in1 (pyNext (.ref z) >>= _) _ _ _
    refine wpAny_bind (zip_item (s := { s with heap := h }) (A := A.in1) D st hl1 hl2 (Array.getElem?_eq_getElem hlt) (Array.getElem?_eq_getElem (by omega : i < ys.size)) fun h' st' hT hz1 hkp => ?_)
    dsimp only at hT hz1 hkp ⊢
    have hS' := hkp S _ n1 n3 n4 n5 hSg
    have up : ∀ b o, b ≠ S → h'.get? b = some o → (h'.update S (Obj.mapSeq (·.push (Value.ref h.objs.size)))).get? b = some o := fun b o hb e => (Heap.get?_update_other _ _ (Ne.symm hb)).trans e
    have hSlt : S < h.objs.size := Heap.lt_size hSg
    have hself := Heap.get?_update_self (Obj.mapSeq (·.push (Value.ref h.objs.size))) hS' rfl
    show wpAny _ A.in1 (updateSeq S (·.push (Value.ref h.objs.size)) >>= _) _ _ _
    refine wpAny_bind ?_
    have hTn : h.objs.size ≠ S := Nat.ne_of_gt hSlt
    have ls1 : l1 ≠ z ∧ l1 ≠ TO ∧ l1 ≠ i1 ∧ l1 ≠ i2 := ⟨D.l1z, D.l1TO, D.l1i1, D.l1i2⟩
    have ls2 : l2 ≠ z ∧ l2 ≠ TO ∧ l2 ≠ i1 ∧ l2 ≠ i2 := ⟨D.l2z, D.l2TO, D.l2i1, D.l2i2⟩
    have both : ∀ b o, b ≠ S → b ≠ z → b ≠ TO → b ≠ i1 → b ≠ i2 → h.get? b = some o → (h'.update S (Obj.mapSeq (·.push (Value.ref h.objs.size)))).get? b = some o := fun b o b1 b2 b3 b4 b5 e => up b o b1 (hkp b o b2 b3 b4 b5 e)
    have tup : ∀ {l : Addr} {us : Array Value}, l ≠ S → l ≠ z ∧ l ≠ TO ∧ l ≠ i1 ∧ l ≠ i2 → h.IsTuple l us → (h'.update S (Obj.mapSeq (·.push (Value.ref h.objs.size)))).IsTuple l us := fun n q ⟨o, ho, r⟩ => ⟨o, both _ o n q.1 q.2.1 q.2.2.1 q.2.2.2 ho, r⟩
    refine wpAny_updateSeq hS' rfl (wpAny_pure ⟨plainId_quiet F.plain_extend_loop _, ih (i + 1) _ _ (acc.push (Value.ref h.objs.size)) (as ++ [h.objs.size]) (by omega) hlt (st'.keep hS up ⟨_, hself⟩) (tup hSl.1.symm ls1 hl1) (tup hSl.2.symm ls2 hl2) ?_
      (fun b o b1 b2 b3 b4 b5 e => both b o b1 b2 b3 b4 b5 (hkeep b o b1 b2 b3 b4 b5 e)) hself (by rw [Array.toList_push, hacc, List.map_append]; rfl) (by rw [List.length_append, hal]; rfl) ⟨?_, ?_, ?_⟩⟩) (by rw [hsz]; omega) (by show (acc.push (Value.ref h.objs.size)).size ≤ sizeLine + 1; rw [Array.size_push, hsz]; omega)
    · refine Nat.le_trans hls ?_
      have e : (h'.update S (Obj.mapSeq (·.push (Value.ref h.objs.size)))).get? h.objs.size = _ := up _ _ hTn hT
      exact Nat.le_of_lt (Heap.lt_size e)
    · refine List.pairwise_append.mpr ⟨hG.rise, List.pairwise_singleton _ _, fun a ha b hb => ?_⟩
      rw [List.mem_singleton.mp hb]
      obtain ⟨j, hj⟩ := List.getElem?_of_mem ha
      obtain ⟨_, _, _, _, e3⟩ := hG.pairs j a hj
      exact Heap.lt_size e3
    · intro a ha
      rcases List.mem_append.mp ha with ha | ha
      · exact hG.above a ha
      · rw [List.mem_singleton.mp ha]
        exact hls
    · intro j b hj
      rcases Nat.lt_trichotomy j as.length with g1 | g1 | g1
      · rw [List.getElem?_append_left g1] at hj
        obtain ⟨x, y, e1, e2, e3⟩ := hG.pairs j b hj
        have d := hG.above b (List.mem_of_getElem? hj)
        exact ⟨x, y, e1, e2, both b _ (Nat.ne_of_gt (Nat.lt_of_lt_of_le hlo d)) (Nat.ne_of_gt (Nat.lt_of_lt_of_le hfz.1 d)) (Nat.ne_of_gt (Nat.lt_of_lt_of_le hfz.2.1 d)) (Nat.ne_of_gt (Nat.lt_of_lt_of_le hfz.2.2.1 d)) (Nat.ne_of_gt (Nat.lt_of_lt_of_le hfz.2.2.2 d)) e3⟩
      · subst g1
        have hb : h.objs.size = b := by simpa using hj
        subst hb
        exact ⟨xs[as.length]'(by omega), ys[as.length]'(by omega), Array.getElem?_eq_getElem _, Array.getElem?_eq_getElem _, by have := up _ _ hTn hT; subst hal; exact this⟩
      · have hnone : (as ++ [h.objs.size])[j]? = none := List.getElem?_eq_none (by rw [List.length_append, List.length_singleton]; omega)
        rw [hnone] at hj
        cases hj
theorem zip_len_none : typeLookup (.type "zip") "__len__" = pure none := am_miss_of_fast (by decide +kernel)
theorem zip_hint_none : typeLookup (.type "zip") "__length_hint__" = pure none := am_miss_of_fast (by decide +kernel)
theorem zip_extend {z TI TO i1 i2 l1 l2 S : Addr} {xs ys : Array Value} {R : Result → Shared → Prop} {lo : Addr} (hh : A.handled = none) (D : ZipApart z TI TO i1 i2 l1 l2) (hS : S ≠ z ∧ S ≠ TI ∧ S ≠ TO ∧ S ≠ i1 ∧ S ≠ i2) (hSl : S ≠ l1 ∧ S ≠ l2) (hxy : xs.size = ys.size) (hn : xs.size ≤ sizeLine) (res : Value)
    (hlo : S < lo) (hfz : z < lo ∧ TO < lo ∧ i1 < lo ∧ i2 < lo) (hle : lo ≤ s.heap.objs.size) (hz : IsZip s.heap z TI TO .none) (st : ZS s.heap z TI TO i1 i2 l1 l2 0) (hl1 : s.heap.IsTuple l1 xs) (hl2 : s.heap.IsTuple l2 ys) (c0 : Nat) (hS0 : s.heap.get? S = some { cls := .type "list", data := .seq #[] c0 })
    (hR : ∀ h' acc c as, (∀ b o, b ≠ S → b ≠ z → b ≠ TO → b ≠ i1 → b ≠ i2 → s.heap.get? b = some o → h'.get? b = some o) → h'.get? S = some { cls := .type "list", dict := none, data := .seq acc c, slots := #[] } → as.length = xs.size → Pairs xs ys lo h' as → acc.toList = as.map Value.ref → R (.ok (.ret res)) { s with heap := h' }) :
    wpAny (model prog w) A.in1 (Builtin.List.listExtendWith (.ref S) (.ref z) res)
      (fun fin s' => match fin with | .done f => R (.ok f) s' | .again c' => c'.quiet = true ∧ codeAny (model prog w) A c' R s') (fun e s' => R (.error e) s') s := by
  have hTy : s.TypeIs (.ref z) "zip" := st.ty
  unfold Builtin.List.listExtendWith
  refine wpAny_bind (wpAny_typeOf (T := "zip") hTy ?_)
  have g1 : Builtin.List.listSameRef (.ref S) (.ref z) = false := by simp [Builtin.List.listSameRef, hS.1]
  have g2 : (Value.type "zip" == Value.type "list") = false := by decide
  have g3 : (Value.type "zip" == Value.type "tuple") = false := by decide
  simp only [g1, g2, g3, Bool.or_false, Bool.false_eq_true, if_false]
  refine wpAny_bind (wpAny_pyIter_zip hz ?_)
  refine wpAny_bind (wpAny_holding ?_)
  unfold Builtin.List.listLengthHint
  refine wpAny_bind (wpAny_specialOf hTy zip_len_none ?_)
  show wpAny _ _ (specialOf (Value.ref z) (Str.ofString "__length_hint__") >>= _) _ _ _
  refine wpAny_bind (wpAny_specialOf hTy zip_hint_none ?_)
  refine wpAny_pure ?_
  show wpAny _ _ (rule "list.extend.makes-room" >>= fun _ => Builtin.List.listTouch (.ref S) >>= fun _ => again (.builtin "list.extend.loop" ⟨[.ref S, .ref z, res], []⟩)) _ _ _
  refine wpAny_bind (wpAny_rule ?_)
  refine wpAny_bind ?_
  show wpAny _ _ (updateSeq S (·.push .none) >>= fun _ => updateSeq S (·.pop)) _ _ _
  refine wpAny_bind (wpAny_updateSeq hS0 rfl ?_)
  have hS2 := Heap.get?_update_self (Obj.mapSeq (·.push Value.none)) hS0 rfl
  refine wpAny_updateSeq (hz := by seq_fits) hS2 rfl ?_
  have hS3 := Heap.get?_update_self (Obj.mapSeq (·.pop)) hS2 rfl
  have oth : ∀ b o, b ≠ S → s.heap.get? b = some o → ((s.heap.update S (Obj.mapSeq (·.push Value.none))).update S (Obj.mapSeq (·.pop))).get? b = some o := fun b o hb e => (Heap.get?_update_other _ _ (Ne.symm hb)).trans ((Heap.get?_update_other _ _ (Ne.symm hb)).trans e)
  refine wpAny_pure ⟨plainId_quiet F.plain_extend_loop _, zip_loop (s := s) (h0 := s.heap) (lo := lo) hh D hS hSl hxy hn res hlo hfz hR xs.size 0 _ _ #[] [] (Nat.sub_zero _) (Nat.zero_le _) (st.keep hS oth ⟨_, hS3⟩) ?_ ?_ ?_ (fun b o b1 _ _ _ _ e => oth b o b1 e) hS3 rfl rfl ⟨List.Pairwise.nil, (fun _ ha => nomatch ha), fun j a hj => by simp at hj⟩⟩
  · obtain ⟨o, ho, r⟩ := hl1
    exact ⟨o, oth _ _ hSl.1.symm ho, r⟩
  · obtain ⟨o, ho, r⟩ := hl2
    exact ⟨o, oth _ _ hSl.2.symm ho, r⟩
  · have e : ((s.heap.update S (Obj.mapSeq (·.push Value.none))).update S (Obj.mapSeq (·.pop))).objs.size = s.heap.objs.size := by
      first
        | rw [Heap.size_update, Heap.size_update]
        | simp [Heap.update]
    rw [e]
    exact hle
/-- list(z) for such a zip -/
theorem zip_list {z TI TO i1 i2 l1 l2 : Addr} {xs ys : Array Value} {Q : Value → Shared → Prop} (hh : A.handled = none) (D : ZipApart z TI TO i1 i2 l1 l2) (hxy : xs.size = ys.size) (hn : xs.size ≤ sizeLine)
    (hfz : z < s.heap.objs.size ∧ TI < s.heap.objs.size ∧ TO < s.heap.objs.size ∧ i1 < s.heap.objs.size ∧ i2 < s.heap.objs.size) (hz : IsZip s.heap z TI TO .none) (st : ZS s.heap z TI TO i1 i2 l1 l2 0) (hl1 : s.heap.IsTuple l1 xs) (hl2 : s.heap.IsTuple l2 ys)
    (hQ : ∀ h' acc c as, (∀ b o, b ≠ z → b ≠ TO → b ≠ i1 → b ≠ i2 → s.heap.get? b = some o → h'.get? b = some o) → h'.get? s.heap.objs.size = some { cls := .type "list", dict := none, data := .seq acc c, slots := #[] } → as.length = xs.size → Pairs xs ys (s.heap.objs.size + 1) h' as → acc.toList = as.map Value.ref → Q (.ref s.heap.objs.size) { s with heap := h' }) :
    wpAny (model prog w) A (call (.type "list") [.ref z]) Q E s := by
  refine callType_codes (Q₁ := fun obj s1 => obj = .ref s.heap.objs.size ∧ s1 = { s with heap := s.heap.push { cls := .type "list", data := .seq #[] } }) F.called_list (F.typeCall_list_1 _) F.entry_list_init (code_list_new _ ⟨rfl, rfl⟩) fun obj s1 hs1 => ?_
  obtain ⟨rfl, rfl⟩ := hs1
  have hS : (s.heap.push { cls := .type "list", data := .seq #[] }).get? s.heap.objs.size = some { cls := .type "list", data := .seq #[] } := Heap.get?_push_size _ rfl
  refine ⟨⟨_, hS, rfl⟩, F.args_list_init_2 _ _, ?_⟩
  show wpAny _ _ (do let old ← Builtin.List.listItems (.ref s.heap.objs.size); Builtin.List.listUpdate (.ref s.heap.objs.size) (fun _ => #[]); letGo old.toList.reverse; Builtin.List.listExtendWith (.ref s.heap.objs.size) (.ref z) .none) _ _ _
  refine wpAny_bind ?_
  unfold Builtin.List.listItems
  refine wpAny_bind (wpAny_seqItems hS rfl (wpAny_pure ?_))
  show wpAny _ _ (updateSeq s.heap.objs.size (fun _ => #[]) >>= fun _ => letGo (#[] : Array Value).toList.reverse >>= fun _ => Builtin.List.listExtendWith (.ref s.heap.objs.size) (.ref z) .none) _ _ _
  refine wpAny_bind (wpAny_updateSeq hS rfl ?_)
  have hS2 := Heap.get?_update_self (Obj.mapSeq (fun _ => (#[] : Array Value))) hS rfl
  have oth : ∀ b o, s.heap.get? b = some o → ((s.heap.push { cls := .type "list", data := .seq #[] }).update s.heap.objs.size (Obj.mapSeq (fun _ => (#[] : Array Value)))).get? b = some o :=
    fun b o e => (Heap.get?_update_other _ _ (Nat.ne_of_gt (Heap.lt_size e))).trans (Heap.get?_push_of_some _ e)
  refine wpAny_bind (wpAny_letGo ?_)
  have hsz2 : ((s.heap.push { cls := .type "list", data := .seq #[] }).update s.heap.objs.size (Obj.mapSeq (fun _ => (#[] : Array Value)))).objs.size = s.heap.objs.size + 1 := by rw [Heap.size_update, Heap.size_push]
  generalize hH2 : (s.heap.push { cls := .type "list", data := .seq #[] }).update s.heap.objs.size (Obj.mapSeq (fun _ => (#[] : Array Value))) = H2 at hS2 oth hsz2 ⊢
  have lt1 : s.heap.objs.size < s.heap.objs.size + 1 := Nat.lt_succ_self _
  have hl1' : l1 < s.heap.objs.size := by
    obtain ⟨o, ho, _⟩ := hl1
    exact Heap.lt_size ho
  have hl2' : l2 < s.heap.objs.size := by
    obtain ⟨o, ho, _⟩ := hl2
    exact Heap.lt_size ho
  obtain ⟨f1, f2, f3, f4, f5⟩ := hfz
  have nS : s.heap.objs.size ≠ z ∧ s.heap.objs.size ≠ TI ∧ s.heap.objs.size ≠ TO ∧ s.heap.objs.size ≠ i1 ∧ s.heap.objs.size ≠ i2 := ⟨Nat.ne_of_gt f1, Nat.ne_of_gt f2, Nat.ne_of_gt f3, Nat.ne_of_gt f4, Nat.ne_of_gt f5⟩
  refine zip_extend (s := { s with heap := H2 }) (A := A.in1) (lo := s.heap.objs.size + 1) (l1 := l1) (l2 := l2) (xs := xs) (ys := ys) hh D nS ⟨Nat.ne_of_gt hl1', Nat.ne_of_gt hl2'⟩ hxy hn .none lt1 ⟨Nat.lt_succ_of_lt f1, Nat.lt_succ_of_lt f3, Nat.lt_succ_of_lt f4, Nat.lt_succ_of_lt f5⟩ (Nat.le_of_eq hsz2.symm) (oth _ _ hz) (st.keep nS (fun b o _ e => oth b o e) ⟨_, hS2⟩) ?_ ?_ _ hS2 ?_
  · obtain ⟨o, ho, r⟩ := hl1
    exact ⟨o, oth _ _ ho, r⟩
  · obtain ⟨o, ho, r⟩ := hl2
    exact ⟨o, oth _ _ ho, r⟩
  · intro h' acc c as hk hSg hl hP hacc
    exact ⟨rfl, hQ h' acc c as (fun b o b2 b3 b4 b5 e => hk b o (Nat.ne_of_lt (Heap.lt_size e)) b2 b3 b4 b5 (oth b o e)) hSg hl hP hacc⟩
end
end Gm
/-! list(zip(xs, ys)) of two tuples, as a rule. -/
namespace Gm
open PySem PySem.Spec PyProof.Rows L2 RZ
/-- pairs told at their addresses -/
def putP (H : Hp) : List Addr → List (V × V) → Hp
  | a :: as, p :: ps => upd (putP H as ps) a (.tup [p.1, p.2])
  | _, _ => H
theorem putP_off {H : Hp} {b : Addr} : ∀ {as : List Addr} {ps : List (V × V)}, b ∉ as → putP H as ps b = H b
  | [], _, _ => by
    unfold putP
    rfl
  | _ :: _, [], _ => rfl
  | a :: as, p :: ps, h => by
    show upd (putP H as ps) a (.tup [p.1, p.2]) b = H b
    rw [upd_ne (fun e => h (by rw [e]; exact List.mem_cons_self ..)), putP_off fun z => h (List.mem_cons_of_mem _ z)]
theorem putP_at {H : Hp} : ∀ {as : List Addr} {ps : List (V × V)} {j : Nat} {a : Addr} {p : V × V}, as.Nodup → as[j]? = some a → ps[j]? = some p → putP H as ps a = some (.tup [p.1, p.2])
  | b :: as, q :: ps, 0, a, p, _, e1, e2 => by
    cases Option.some.inj e1
    cases Option.some.inj e2
    exact upd_same
  | b :: as, q :: ps, j + 1, a, p, nd, e1, e2 => by
    have e1' : as[j]? = some a := e1
    have nd' := List.nodup_cons.mp nd
    show upd (putP H as ps) b (.tup [q.1, q.2]) a = _
    rw [upd_ne (fun e => nd'.1 (by rw [← e]; exact List.mem_of_getElem? e1'))]
    exact putP_at nd'.2 e1' e2
def tListZip (K : Frag) (tas : TA) : TE := fun σ H Q => tas σ H fun vs H1 => ∃ a b xs ys, vs = [.ref a, .ref b] ∧ SqT K H1 a xs ∧ SqT K H1 b ys ∧ xs.length = ys.length ∧
  ∀ (H' : Hp) (p : Addr) (ts : List Addr), Same H1 H' → H1 p = none → p ∉ ts → H' p = some (.lst (ts.map V.ref)) → ts.length = xs.length → (∀ (j : Nat) (t : Addr), ts[j]? = some t → ∃ x y, xs[j]? = some x ∧ ys[j]? = some y ∧ H' t = some (.tup [x, y])) → Q (.ref p) H'
section
variable {X : Cx} {pn : List (Addr × Obj)} {σ : L2.St} {H : Hp} {s : Shared}
theorem refs_vals : ∀ as : List Addr, Vals (as.map V.ref) (as.map Value.ref)
  | [] => .nil
  | _ :: as => .cons rfl (refs_vals as)
theorem pairs_laid {h' : Heap} {xs ys : List V} {us ws : List Value} {acc : Array Value} {c : Nat} {as : List Addr} {S lo : Addr} (I : Inv X pn σ H s) (hz : xs.length ≤ sizeLine) (hxy : xs.length = ys.length) (rx : Vals xs us) (ry : Vals ys ws)
    (hk : ∀ b o, s.heap.get? b = some o → h'.get? b = some o) (hSz : s.heap.objs.size ≤ S) (hlo : S < lo) (hS : h'.get? S = some { cls := .type "list", dict := none, data := .seq acc c, slots := #[] }) (hl : as.length = xs.length) (hP : Pairs us.toArray ws.toArray lo h' as) (hacc : acc.toList = as.map Value.ref) :
    ∃ H' : Hp, Same H H' ∧ H S = none ∧ S ∉ as ∧ H' S = some (.lst (as.map V.ref)) ∧ (∀ (j : Nat) (t : Addr), as[j]? = some t → ∃ x y, xs[j]? = some x ∧ ys[j]? = some y ∧ H' t = some (.tup [x, y])) ∧ Inv X pn σ H' { s with heap := h' } := by
  have hSn : S ∉ as := fun z => absurd (hP.above _ z) (Nat.not_le_of_gt hlo)
  have nd : as.Nodup := List.Pairwise.imp (fun {a b} (h : a < b) => Nat.ne_of_lt h) hP.rise
  have big : ∀ t ∈ as, s.heap.objs.size ≤ t := fun t ht => Nat.le_trans hSz (Nat.le_of_lt (Nat.lt_of_lt_of_le hlo (hP.above t ht)))
  have new : ∀ t ∈ as, H t = none := fun t ht => I.hok.fresh (big t ht)
  have newS : H S = none := I.hok.fresh hSz
  have items : ∀ {j : Nat} {t : Addr}, as[j]? = some t → ∃ x y, xs[j]? = some x ∧ ys[j]? = some y ∧ (xs.zip ys)[j]? = some (x, y) := fun {j t} e => by
    have hj : j < as.length := (List.getElem?_eq_some_iff.mp e).1
    refine ⟨xs[j]'(by omega), ys[j]'(by omega), List.getElem?_eq_getElem _, List.getElem?_eq_getElem _, ?_⟩
    rw [List.getElem?_zip_eq_some]
    exact ⟨List.getElem?_eq_getElem _, List.getElem?_eq_getElem _⟩
  have off : ∀ b, b ∉ as → b ≠ S → putP (upd H S (.lst (as.map V.ref))) as (xs.zip ys) b = H b := fun b h1 h2 => by rw [putP_off h1, upd_ne h2]
  have low : ∀ b o, s.heap.get? b = some o → b ∉ as ∧ b ≠ S := fun b o e => ⟨fun z => absurd (Heap.lt_size e) (Nat.not_lt.mpr (big b z)), fun z => absurd (Heap.lt_size e) (Nat.not_lt.mpr (by rw [z]; exact hSz))⟩
  have kp : ∀ b u, H b = some u → (putP (upd H S (.lst (as.map V.ref))) as (xs.zip ys)) b = some u := fun b u e => by
    rw [off b (fun z => by rw [new b z] at e; cases e) (fun z => by rw [z, newS] at e; cases e)]
    exact e
  have eS : putP (upd H S (.lst (as.map V.ref))) as (xs.zip ys) S = some (.lst (as.map V.ref)) := by rw [putP_off hSn, upd_same]
  refine ⟨putP (upd H S (.lst (as.map V.ref))) as (xs.zip ys), kp, newS, hSn, eS, fun j t e => ?_, ?_⟩
  · obtain ⟨x, y, e1, e2, e3⟩ := items e
    exact ⟨x, y, e1, e2, putP_at nd e e3⟩
  refine I.call' (ch := []) rfl ⟨fun b o q _ _ _ => hk b o q, fun b o q _ _ _ => ⟨o.slots, hk b o q⟩, fun b o q n _ => ?_, fun b o q _ => ⟨o, hk b o q⟩, fun b xs q => kp b _ q, fun b o u q => kp b _ q, fun b ps q => ⟨#[], by rw [kp b _ q]; simp⟩⟩ (fun b u q => ?_) I.bare fun b z => by simp at z
  · obtain ⟨z1, z2⟩ := low b o q
    rw [off b z1 z2]
    exact n
  · by_cases hb : b ∈ as
    · obtain ⟨j, ej⟩ := List.getElem?_of_mem hb
      obtain ⟨x, y, e1, e2, e3⟩ := items ej
      rw [putP_at nd ej e3] at q
      cases q
      obtain ⟨x', y', f1, f2, f3⟩ := hP.pairs j b ej
      obtain ⟨u1, g1, r1⟩ := rx.get e1
      obtain ⟨u2, g2, r2⟩ := ry.get e2
      have f1' : us[j]? = some x' := by simpa using f1
      have f2' : ws[j]? = some y' := by simpa using f2
      rw [g1] at f1'
      rw [g2] at f2'
      cases f1'
      cases f2'
      exact ⟨by show 2 ≤ sizeLine; decide, [_, _], .cons r1 (.cons r2 .nil), ⟨_, f3, rfl, _, rfl⟩⟩
    · by_cases hb2 : b = S
      · rw [hb2] at q ⊢
        rw [eS] at q
        cases q
        refine ⟨by rw [List.length_map]; omega, acc.toList, c, by rw [hacc]; exact refs_vals as, ?_⟩
        rw [Array.toArray_toList]
        exact hS
      · rw [off b hb hb2] at q
        exact (I.hok b u q).stay (fun d v _ y => hk d v y) (fun d y => kp d _ y) fun d xs y => kp d _ y
end
section
variable {X : Cx} {e e2 : Expr} {tas : TA} {p q pos zpos : Pos}
/-- list(zip(e, e2)) -/
theorem pe_listZip (hc : X.calm = true) (hg : Gl X "list") (hm : X.mg "list" = none) (hgz : Gl X "zip") (hmz : X.mg "zip" = none) (ha : PA X [e, e2] tas)
    (hs : starEach [.Call (.Name "zip" q) [e, e2] [] zpos] X.env = (false, eval (.Call (.Name "zip" q) [e, e2] [] zpos) X.env) :: starEach [] X.env := by rfl)
    (hz : starEach [e, e2] X.env = (false, eval e X.env) :: starEach [e2] X.env := by rfl) (hpl : (backTo zpos (starEach [e2] X.env)).any (·.1) = false := by rfl) :
    PE X (.Call (.Name "list" p) [.Call (.Name "zip" q) [e, e2] [] zpos] [] pos) (tListZip X.K tas) := by
  refine ⟨fun pn sh σ H Q I h => ?_⟩
  have hv : bootBuiltins "list" = some (.type "list") := by decide +kernel
  refine wpAny_Call_Name_kw (ld_blt I hg hm hv ?_)
  refine PyProof.Rows.callWith_type1 ?_ hs rfl
  rw [hs]
  show wpAny _ _ (spliced ((false, eval (.Call (.Name "zip" q) [e, e2] [] zpos) X.env) :: backTo pos (starEach [] X.env))) _ _ sh
  refine Calls.spliced_cons ?_
  refine Call_ (ld_blt I hgz hmz PyProof.Rows.boot_zip (PyProof.Rows.callWith_type1 (thn (ha.run zpos pn sh σ H _ I h) fun argv sA ⟨vs, H1, J, rel, post⟩ => ?_) hz hpl))
  obtain ⟨a, b, xs, ys, ex, hqx, hqy, hxy, post⟩ := post
  subst ex
  cases rel with
  | cons rel1 rr =>
    cases rr with
    | cons rel2 rr =>
      cases rr
      cases rel1
      cases rel2
      obtain ⟨us, rvx, p1, hlx⟩ := J.tuple hqx
      obtain ⟨ws, rvy, p2, hly⟩ := J.tuple hqy
      obtain ⟨o1, ho1, _⟩ := id p1
      obtain ⟨o2, ho2, _⟩ := id p2
      refine call_zipT (show sA.heap.IsTuple a us.toArray from p1) (show sA.heap.IsTuple b ws.toArray from p2) fun h' hzz hTI hTO h1 h2 hsz hk => ?_
      refine Calls.spliced_nil ?_
      have lx := rvx.length
      have ly := rvy.length
      have ap := PySem.W.ktu_apart sA.heap.objs.size a b (Heap.lt_size ho1) (Heap.lt_size ho2)
      have low : ∀ c o, sA.heap.get? c = some o → c ≠ sA.heap.objs.size + 4 ∧ c ≠ sA.heap.objs.size + 3 ∧ c ≠ sA.heap.objs.size ∧ c ≠ sA.heap.objs.size + 1 := fun c o e => by
        have d : c < sA.heap.objs.size := Heap.lt_size e
        exact ⟨Nat.ne_of_lt (Nat.lt_add_right 4 d), Nat.ne_of_lt (Nat.lt_add_right 3 d), Nat.ne_of_lt d, Nat.ne_of_lt (Nat.lt_add_right 1 d)⟩
      have five : ∀ k : Nat, k < 5 → sA.heap.objs.size + k < h'.objs.size := fun k hk5 => by
        rw [hsz]
        exact Nat.add_lt_add_left hk5 _
      refine zip_list (s := { sA with heap := h' }) (xs := us.toArray) (ys := ws.toArray) (J.ok.hd hc) ap (by simp; omega) (by rw [List.size_toArray, ← lx]; exact hlx) ⟨five 4 (by decide), five 2 (by decide), five 3 (by decide), five 0 (by decide), five 1 (by decide)⟩ hzz ⟨hTI, h1, h2, .inl ⟨hzz, _, _, hTO⟩⟩ ?_ ?_ fun h3 acc c as hk3 hS3 hl3 hP3 hacc3 => ?_
      · exact (show sA.heap.IsTuple a us.toArray from p1).imp fun o r => ⟨hk _ _ r.1, r.2⟩
      · exact (show sA.heap.IsTuple b ws.toArray from p2).imp fun o r => ⟨hk _ _ r.1, r.2⟩
      · have hk4 : ∀ b o, sA.heap.get? b = some o → h3.get? b = some o := fun b o e => by
          obtain ⟨q1, q2, q3, q4⟩ := low b o e
          exact hk3 b o q1 q2 q3 q4 (hk b o e)
        obtain ⟨H', k1, k2, k3, k4, k5, J3⟩ := pairs_laid (S := h'.objs.size) (lo := h'.objs.size + 1) J hlx hxy rvx rvy hk4 (Nat.le_of_lt (five 0 (by decide))) (Nat.lt_succ_self _) hS3 (by rw [hl3, List.size_toArray, lx]) hP3 hacc3
        exact ⟨.ref h'.objs.size, H', J3, rfl, post H' _ as k1 k2 k3 k4 (by rw [hl3, List.size_toArray, lx]) k5⟩
end
end Gm
/-! An own class walked, whose __iter__ answers iter of a tuple. -/
namespace Gm
open PySem PySem.Spec PyProof.Rows L2
/-- what a def promises where the heap has at least n places -/
structure FnAt (n : Nat) (P : Program) (w : World) (K : PySem.W.Frag) (mg : Str → Option Value) (base : Heap) (k : Nat) (f : Addr) (fd : FuncData) (ps : List Str) (sp : Sp) : Prop where
  len : ∀ vs H Q E, sp vs H Q E → vs.length = ps.length
  run : ∀ (A : Around) (outer : List Env) (s : Shared) (H : Hp) (args : Args) (us : List Value) (vs : List V) (Q : VK) (E : XK), n ≤ s.heap.objs.size → Room k A → Env0 P w K mg base A outer s H → BindsTo s fd args (ps.zip us) → Vals vs us → sp vs H Q E →
    codeAny (model P w) A (.call (.ref f) args) (CR CX0 outer P w H s Q E) s
theorem fn_at {n : Nat} {P : Program} {w : World} {K : PySem.W.Frag} {mg : Str → Option Value} {base : Heap} {k : Nat} {x qual : Str} {st : Stmt} {f : Addr} {fd : FuncData} {N ps : List Str} {sp : Sp} (F : Fun K x qual st f fd) (S : FnScope N ps (defScope st))
    (len : ∀ vs H Q E, sp vs H Q E → vs.length = ps.length)
    (body : ∀ (cdv : Value) (A : Around) (outer : List Env) (s : Shared) (H : Hp) (vs : List V) (Q : VK) (E : XK), n ≤ s.heap.objs.size → Room k (A.deeper (envOfC qual (defScope st) s.heap.objs.size f cdv)) → sp vs H Q E →
      ∃ t, PSs (cxOf CX0 P w K mg base N qual (defScope st) f cdv A outer s H E) (defBody st) t ∧ t { nx := fun _ H' => Q .non H', rt := Q } (start N vs) H) : FnAt n P w K mg base (k + 1) f fd ps sp := by
  obtain ⟨oc, od, kV, doc, pm, an, cdv, ct, osl, rfl, lk, hcd⟩ := F.ex
  refine ⟨len, fun A outer s H args us vs Q E hn hr e0 hb r q => ?_⟩
  have hl := len _ _ _ _ q
  have XK := e0.mod.kin.keeps fun b o e => (e0.bs b o e).1
  have lim := e0.mod.nolimit.keeps fun b o e => (e0.bs b o e).1
  have kinds : ∀ y ∈ ps.zip us, (defScope st).names.lookup y.1 = some .local ∨ ((defScope st).names.lookup y.1 = some .cell ∧ ((cellsFrom (s.heap.objs.size + 1) (defScope st).names []).lookup y.1).isSome = true) := fun ⟨m, v⟩ hy => (S.par m (List.of_mem_zip hy).1).imp id fun c => ⟨c, PySem.W.cellsFrom_some _ _ _ (.inl c)⟩
  refine codeAny_call_function hr.depth (XK _ _ lk) rfl S.co S.gen rfl (PySem.W.codeRec_of XK hcd) (hb _ _ _ _ ?_)
  refine wpAny_newFunctionEnv_cells S.kind kinds fun env he s1 xc => ?_
  subst he
  refine ⟨lim.keeps xc.toInCall.keep, codeAny_func ?_⟩
  obtain ⟨t, ht, hq⟩ := body cdv A outer s H vs Q E hn (hr.deeper _) q
  have I0 := inv_start (CX := CX0) (E := E) S hr.hd e0 hl r xc
  refine wpAny_mono (ht.run [] s1 (start N vs) H _ I0 hq) (fun fl s' z => ?_) fun e s' z => z
  match fl, z with
  | .ret u, z =>
    obtain ⟨v, σ', H', J, rv, q⟩ := z
    exact ⟨v, H', J.os, J.bare, J.base, J.hok, rv, q⟩
  | .next, z =>
    obtain ⟨σ', H', J, q⟩ := z
    exact ⟨V.non, H', J.os, J.bare, J.base, J.hok, rfl, q⟩
  | .brk, z =>
    obtain ⟨_, _, _, q⟩ := z
    exact False.elim q
  | .cont, z =>
    obtain ⟨_, _, _, q⟩ := z
    exact False.elim q
/-! ### iter of a tuple -/
def ItT (l it : Addr) : HO := .ext fun h => h.get? it = some { cls := .type "tuple_iterator", data := .fields #[.ref l, .int 0 0] }
theorem itT_ok {P : Program} {w : World} {H : Hp} {h : Heap} {l it : Addr} (e : h.get? it = some { cls := .type "tuple_iterator", data := .fields #[.ref l, .int 0 0] }) : ObjOk P w H h it (ItT l it) := ⟨e, ⟨_, e⟩, fun h1 h2 q k => k _ q⟩
def rIterT (K : PySem.W.Frag) (n : Nat) : List V → Hp → VK → Prop := fun xs H Q => ∃ (l : Addr) (zs : List V), xs = [.ref l] ∧ SqT K H l zs ∧ ∀ it, H it = none → n ≤ it → Q (.ref it) (upd H it (ItT l it))
section
variable {X : Cx}
theorem call_iterT : CallR X (.builtin "iter") (rIterT X.K X.s_0.heap.objs.size) := by
  intro pn sh σ H xs argv Q I r h
  obtain ⟨l, zs, rfl, hq, q⟩ := h
  obtain ⟨u, rfl, ru⟩ := vals1 r
  cases ru
  obtain ⟨vals, rv, pl, hz⟩ := I.tuple hq
  refine Calls.call_function_entry (by decide +kernel) (by decide +kernel) PySem.W.kdk_entry_iter (PySem.W.kdk_args_iter _) ?_
  unfold Builtin.«iter»
  refine wpAny_bind (m := someArgs "iter" 1 2 _) (wpAny_of_eq (a := [Value.ref l]) (by first | rfl | kernel_rfl!) ?_)
  show wpAny _ _ (pyIter (.ref l) >>= _) _ _ _
  refine wpAny_bind (wpAny_pyIter_tuple (show sh.heap.IsTuple l vals.toArray from pl) ?_)
  refine wpAny_pure ⟨_, rfl, ?_⟩
  exact ⟨.ref sh.heap.objs.size, _, I.laid (t' := sh.toks) (fun b u e => Heap.get?_push_of_some _ e) (Nat.le_refl _) (itT_ok (Heap.get?_push_size _ rfl)), rfl, q _ (I.hok.fresh (Nat.le_refl _)) I.sz⟩
end
theorem drop_upd {H : Hp} {a : Addr} {o : HO} (h : H a = none) : ItX.dropH (upd H a o) a = H := ItX.dropH_upd h
section
variable {X : Cx} {tg e : Expr} {te : TE} {C f : Addr} {fd : FuncData} {ps : List Str} {k : Nat} {sp : Sp}
/-- e, of an own class, walked by what its __iter__ answers: iter of a tuple -/
def iOwnT (K : PySem.W.Frag) (n : Nat) (C : Addr) (sp : Sp) (te : TE) : TI := fun σ H R => te σ H fun x H1 => ∃ a dx fs, x = .ref a ∧ H1 a = some (.ins C dx fs) ∧
  sp [.ref a] H1 (fun v H2 => ∃ it l, v = .ref it ∧ H2 it = some (ItT l it) ∧ n ≤ it ∧ R (Itt K l) (ItX.dropH H2 it)) L2.E0
theorem pi_ownT (hs : PySem.W.findIn X.K (.ref C) "__iter__" = some (some (.ref f))) (hf : PySem.W.isFn X.K (.ref f) = true) (F : FnAt X.s_0.heap.objs.size X.prog X.w X.K X.mg X.base k f fd ps sp) (hr : Room k X.A) (hb : Binds X.K fd ps []) (he : PE X e te) :
    PI X tg e (iOwnT X.K X.s_0.heap.objs.size C sp te) := by
  refine ⟨fun pn sh σ H R I h => ?_⟩
  refine thn (he.run pn sh σ H _ I h) fun u sA ⟨v, H1, J, rel, q⟩ => ?_
  obtain ⟨a, dx, fs, rfl, ha, q⟩ := q
  cases rel
  obtain ⟨od, Ja⟩ := inst_of J ha
  obtain ⟨m, hF⟩ := J.fr
  refine PySem.W.owit_iter hF J.ok.mod.kin Ja hs hf ?_
  have hl := F.len _ _ _ _ q
  have bnd := hb sA [.ref a] J.kIn (by simpa using hl)
  refine wpAny_call (codeAny_mono (F.run X.A X.stack sA H1 ⟨[.ref a], []⟩ [.ref a] [.ref a] _ _ J.sz hr J.env0 (by simpa using bnd) (.cons rfl .nil) q) fun r s' z => ?_)
  match r, z with
  | .error er, z => exact z.elim
  | .ok .next, z => exact False.elim z
  | .ok .brk, z => exact False.elim z
  | .ok .cont, z => exact False.elim z
  | .ok (.ret w), z =>
    obtain ⟨v2, H2, J2, rel2, it, l, rfl, hit, hn, q2⟩ := J.after z
    cases rel2
    have eo := (J2.hok it _ hit).1
    have ty : s'.TypeIs (.ref it) "tuple_iterator" := ⟨_, eo, rfl⟩
    show PySem.W.OwitIt _ _ _ _ (.ref it) s'
    unfold PySem.W.OwitIt
    refine wpAny_specialOf (name := Str.ofString "__next__") ty PySem.F.slot_tuple_iterator_next.lookup ?_
    have hit' := hit
    unfold ItT at hit'
    refine ⟨it, [it], _, _, ItX.dropH H2 it, rfl, ItX.inv_drop J2 hit', turn_tuple l it, ⟨_, eo, rfl, rfl⟩, fun b hb => ?_, q2⟩
    have e : b = it := by simpa using hb
    rw [e]
    exact ItX.inv_fp J2 hit hn
end
end Gm
/-! x == t: an own class with its own ==, and a tuple. -/
namespace Gm
open PySem PySem.Spec PyProof.Rows L2
section
variable {X : Cx} {C f : Addr} {fd : FuncData} {ps : List Str} {CX : CXT} {k : Nat} {sp : Sp} {E : XK}
def rOwnCmpT (K : Frag) (C : Addr) (sp : Sp) (E : XK) : R2 := fun x y H Q => ∃ a b dx fs xs, x = .ref a ∧ y = .ref b ∧ H a = some (.ins C dx fs) ∧ SqT K H b xs ∧ sp [x, y] H Q E
theorem op_ownCmpT (hs : PySem.W.findIn X.K (.ref C) "__eq__" = some (some (.ref f))) (hf : PySem.W.isFn X.K (.ref f) = true) (hnf : PySem.W.notFirst X.K C (.type "tuple") = true)
    (F : FnOk X.prog X.w X.K X.mg X.base CX k f fd ps sp) (hr : Room k X.A) (hb : Binds X.K fd ps []) (hx : Passes CX X E) : OpR X (compareOp .Eq) (rOwnCmpT X.K C sp E) := by
  intro pn sg σ H x y v u Q I rx ry h
  obtain ⟨a, b, dx, fs, xs, rfl, rfl, ha, hq, q⟩ := h
  cases rx
  cases ry
  obtain ⟨od, J⟩ := inst_of I ha
  obtain ⟨vals, rv, pt, _⟩ := I.tuple hq
  obtain ⟨o, ho, hc, _⟩ := id pt
  obtain ⟨m, hF⟩ := I.fr
  show wpAny _ _ (richCompare .Eq (.ref a) (.ref b)) _ _ _
  refine PySem.W.cmp_K (op := .Eq) (tb := .type "tuple") hr.units0 hF I.ok.mod.kin J ?_ hnf hs hf ?_
  · exact hc ▸ (PySem.W.Looks.ld ho).andThen .now
  refine wpAny_mono (run_fn (us := [.ref a, .ref b]) (vs := [.ref a, .ref b]) F hr hb .nil hx I (.cons rfl (.cons rfl .nil)) q) (fun w s' z => ?_) fun _ _ z => z
  obtain ⟨zR, HR, IR, relZ, postZ⟩ := z
  exact SlX.cmpback relZ ⟨zR, HR, IR, relZ, postZ⟩
end
end Gm
/-! c != None, c of an own class that has only its own == -/
namespace Gm
open PySem PySem.Spec PyProof.Rows L2
section
variable {prog : Program} {w : World} {A : Around} {E : Value → Shared → Prop} {s : Shared} {K : PySem.W.Frag} {x C f : Addr} {ox : Obj} {od : Option Obj}
theorem objNeV_body {yv : Value} {Q : Fin → Shared → Prop} (X : K.In s.heap) (J : PySem.W.InstAt s.heap x ox C od) (hs : PySem.W.findIn K (.ref C) "__eq__" = some (some (.ref f))) (hf : PySem.W.isFn K (.ref f) = true) (hu : A.units < cLine)
    (h : wpAny (model prog w) A (call (.ref f) [.ref x, yv]) (fun v s' => ∃ b, v = Value.bool b ∧ Q (.done (.ret (.bool (!b)))) s') E s) : wpAny (model prog w) A (Builtin.«object.__ne__» ⟨[.ref x, yv], []⟩) Q E s := by
  unfold Builtin.«object.__ne__»
  repeat (first
    | with_reducible refine wpAny_cRoomFor hu ?_
    | (refine wpAny_bind (m := callSpecialIfBound? (.ref x) (Str.ofString "__eq__") [yv]) (PySem.W.ifBound_K X J hs hf (wpAny_mono h (fun v s' hv => ?_) fun _ _ e => e))
       obtain ⟨b, rfl, hq⟩ := hv
       repeat (first | exact hq | exact wpAny_pure hq | exact wpAny_truthy_bool hq | (refine wpAny_bind (m := truthy (.bool _)) (wpAny_truthy_bool ?_)) | wp_step))
    | wp_step)
theorem objNeV_call {yv : Value} {Q : Value → Shared → Prop} (X : K.In s.heap) (J : PySem.W.InstAt s.heap x ox C od) (hm : PySem.W.mroIn K C (.type "object") = some true) (hs : PySem.W.findIn K (.ref C) "__eq__" = some (some (.ref f))) (hf : PySem.W.isFn K (.ref f) = true) (hu : A.units + 1 < cLine)
    (h : wpAny (model prog w) A.in1 (call (.ref f) [.ref x, yv]) (NotBack Q) E s) : wpAny (model prog w) A (call (.builtin "object.__ne__") [.ref x, yv]) Q E s := by
  refine wpAny_call (codeAny_call_builtin F.cmp_object.ne.plain F.cmpEntry_ne (PySem.W.check_slot F.cmpKind_ne F.cmpSplit_ne (J.type.andThen (PySem.W.looks_mroIn X hm)) (F.cmpArgs_ne _ _) ?_))
  exact objNeV_body X J hs hf hu h
theorem cmpNeN_K {Q : Value → Shared → Prop} (X : K.In s.heap) (J : PySem.W.InstAt s.heap x ox C od) (hno : PySem.W.subIn K (.type "NoneType") (.ref C) = some false) (hm : PySem.W.mroIn K C (.type "object") = some true)
    (hn : PySem.W.findIn K (.ref C) "__ne__" = some (some (.builtin "object.__ne__"))) (hs : PySem.W.findIn K (.ref C) "__eq__" = some (some (.ref f))) (hf : PySem.W.isFn K (.ref f) = true) (hu : A.units + 1 < cLine)
    (h : wpAny (model prog w) A.in1 (call (.ref f) [.ref x, .none]) (NotBack Q) E s) : wpAny (model prog w) A (compareOp .NotEq (.ref x) .none) Q E s := by
  show wpAny (model prog w) A (richCompare .NotEq (.ref x) .none) Q E s
  have one : wpAny (model prog w) A (tryCompare (.ref x) "__ne__" .none) (fun r s' => ∃ v, r = some v ∧ Q v s') E s := by
    unfold tryCompare
    refine wpAny_bind (objNe_bound X J hn (objNeV_call X J hm hs hf hu (wpAny_mono h (fun v s' hv => ?_) fun _ _ e => e)))
    obtain ⟨b, rfl, hq⟩ := hv
    exact ⟨b, rfl, wpAny_pure ⟨_, rfl, hq⟩⟩
  have tn : PySem.W.Looks (model prog w) s.heap (typeOf Value.none) (.type "NoneType") := .now
  unfold richCompare
  rw [cmpInfo_NotEq]
  simp only [oneThing_ref]
  refine wpAny_holding (wpAny_bind (wpAny_cRoomFor (by omega) ?_))
  refine wpAny_bind (J.type.here (wpAny_bind (tn.here ?_)))
  rw [show (Value.ref C != Value.type "NoneType") = true from by simp]
  simp only [if_true]
  refine wpAny_bind ((PySem.W.looks_subIn X hno).here ?_)
  simp only [Bool.false_eq_true, if_false]
  refine wpAny_bind (wpAny_mono one (fun r s' z => ?_) fun _ _ e => e)
  obtain ⟨v, rfl, hq⟩ := z
  exact wpAny_pure hq
end
section
variable {X : Cx} {C f : Addr} {fd : FuncData} {ps : List Str} {CX : CXT} {k : Nat} {sp : Sp}
def rOwnNeN (C : Addr) (sp : Sp) (E : XK) : R2 := fun x y H Q => ∃ a dx fs, x = .ref a ∧ y = .non ∧ H a = some (.ins C dx fs) ∧ sp [x, y] H (fun v H' => ∃ t, v = .bl t ∧ Q (.bl (!t)) H') E
theorem op_ownNeN {E : XK} (hno : PySem.W.subIn X.K (.type "NoneType") (.ref C) = some false) (hm : PySem.W.mroIn X.K C (.type "object") = some true) (hn : PySem.W.findIn X.K (.ref C) "__ne__" = some (some (.builtin "object.__ne__"))) (hs : PySem.W.findIn X.K (.ref C) "__eq__" = some (some (.ref f))) (hf : PySem.W.isFn X.K (.ref f) = true)
    (F : FnOk X.prog X.w X.K X.mg X.base CX k f fd ps sp) (hr : Room (k + 1) X.A) (hb : Binds X.K fd ps []) (hx : ∀ (H : Hp) (s : Shared) (e : Value) (s' : Shared), CX X.stack H s E e s' → False) : OpR X (compareOp .NotEq) (rOwnNeN C sp E) := by
  intro pn sg σ H x y v u Q I rx ry h
  obtain ⟨a, dx, fs, rfl, rfl, ha, q⟩ := h
  cases rx
  cases (show u = Value.none from ry)
  obtain ⟨od, J⟩ := inst_of I ha
  refine cmpNeN_K I.kIn J hno hm hn hs hf (by have := hr.units; omega) ?_
  have hl := F.len _ _ _ _ q
  have rv : Vals [V.ref a, V.non] [Value.ref a, Value.none] := .cons rfl (.cons rfl .nil)
  refine wpAny_call (codeAny_mono (F.run X.A.in1 X.stack sg H ⟨[.ref a, .none], []⟩ [.ref a, .none] [.ref a, .non] _ E hr.in1 I.env0.in1 (by
    have := hb sg [.ref a, .none] I.kIn (by simpa using hl)
    simpa using this) rv q) fun r s' hq => ?_)
  cases r with
  | error e => exact (hx _ _ _ _ hq).elim
  | ok fl =>
    cases fl with
    | ret w =>
      obtain ⟨z, H', I', rz, t, ez, ex⟩ := I.after hq
      subst ez
      cases (show w = Value.bool t from rz)
      exact ⟨t, rfl, .bl (!t), H', I', rfl, ex⟩
    | next => exact False.elim hq
    | brk => exact False.elim hq
    | cont => exact False.elim hq
end
/-! ### a comprehension over the rows and their items -/
/-- [f(item) for row in rows for item in row] -/
theorem lc2_rows {K : Frag} {pa : Addr} {ws : List V} {m : List (List Int)} {H1 : Hp} {D : Addr} {j j1 : Nat} {te : TE} {vs vs1 : List Nat} {σ : L2.St} {f : Int → Int} {Qd : Hp → Prop} (ha : SqT K H1 pa ws) (hD : H1 D = none)
    (hp : Paired (TRow K H1) ws m) (hlen : m.flatten.length ≤ 1000)
    (hw0 : ∀ x, wipe (List.set (wipe σ vs) j x) vs = wipe σ vs) (hw1 : ∀ x y, wipe (List.set (wipe (List.set (wipe σ vs) j x) vs1) j1 y) vs1 = wipe (List.set (wipe σ vs) j x) vs1)
    (hrow : ∀ x, (List.set (wipe σ vs) j x)[j]? = some x)
    (step : ∀ (z : Int) (x : Option V) (H : Hp) (Ko : VK), Ko (.int (f z)) H → te (List.set (wipe (List.set (wipe σ vs) j x) vs1) j1 (some (.int z))) H Ko)
    (done : ∀ H, Same H1 H → H D = some (.lst ((m.flatten.map f).map V.int)) → Qd H) :
    ∃ W : Nat → Nat → Hp → Prop, (∃ m, W 0 m (upd H1 D (.lst []))) ∧ ∀ i m H, W i m H →
  ((Itt K pa).stop i H ∧ Qd H) ∨ ((Itt K pa).go i H ∧ ∃ Nx : Hp → Prop, (∀ H', Nx H' → ∃ m', m' < m ∧ W (i + 1) m' H') ∧ ∀ x H', (Itt K pa).yld i H x H' → gName j x (wipe σ vs) H' fun σ2 H2 => wipe σ2 vs = wipe σ vs ∧ tYes σ2 H2 fun b H3 =>
    if b = true then iTup K (tVar j) σ2 H3 fun J1 H4 => ∃ W1 : Nat → Nat → Hp → Prop, (∃ m, W1 0 m H4) ∧ ∀ j2 k H, W1 j2 k H →
      (J1.stop j2 H ∧ Nx H) ∨ (J1.go j2 H ∧ ∃ Nx1 : Hp → Prop, (∀ H', Nx1 H' → ∃ k', k' < k ∧ W1 (j2 + 1) k' H') ∧ ∀ x H', J1.yld j2 H x H' → gName j1 x (wipe σ2 vs1) H' fun σ3 H5 => wipe σ3 vs1 = wipe σ2 vs1 ∧ tYes σ3 H5 fun b H6 =>
        if b = true then te σ3 H6 fun y H7 => ∃ acc, H7 D = some (.lst acc) ∧ acc.length < sizeLine ∧ Nx1 (upd H7 D (.lst (acc ++ [y]))) else Nx1 H6)
    else Nx H3) := by
  have lw := Paired.length hp
  have w := walk_tup (K := K) (a := pa) (xs := ws)
  let P : Nat → Hp → Prop := fun i H => Same H1 H ∧ H D = some (.lst (((m.take i).flatten.map f).map V.int))
  have upk : ∀ {H : Hp} {o : HO}, Same H1 H → Same H1 (upd H D o) := fun s b o e => by rw [upd_ne (ne_of_none e hD)]; exact s _ _ e
  refine ⟨fun i k H => k = ws.length - i ∧ i ≤ ws.length ∧ P i H, ⟨ws.length, by simp, Nat.zero_le _, upk (Same.refl _), by rw [upd_same]; rfl⟩, ?_⟩
  rintro i k H ⟨rfl, hi, sH, eD⟩
  by_cases hlt : i < ws.length
  · refine .inr ⟨w.goes i H hlt (Same.seqT sH ha), P (i + 1), fun H' p' => ⟨ws.length - (i + 1), by omega, rfl, hlt, p'⟩, fun x H' y => ?_⟩
    obtain ⟨rfl, ex⟩ := w.yields i H x H' hlt (Same.seqT sH ha) y
    obtain ⟨r, er, a, rfl, har⟩ := Paired.getR hp ex
    have w1 := walk_tup (K := K) (a := a) (xs := r.map V.int)
    refine ⟨hw0 _, tyes_of ?_⟩
    have etk : m.take (i + 1) = m.take i ++ [r] := by rw [List.take_add_one, er]; rfl
    have hfl : ((m.take (i + 1)).flatten).length ≤ m.flatten.length := by
      have : m.flatten = (m.take (i + 1)).flatten ++ (m.drop (i + 1)).flatten := by rw [← List.flatten_append, List.take_append_drop]
      rw [this, List.length_append]
      omega
    rw [etk, List.flatten_append, List.length_append] at hfl
    simp only [List.flatten_cons, List.flatten_nil, List.append_nil] at hfl
    refine ⟨_, hrow _, a, rfl, ⟨_, Same.seqT sH har⟩, ?_⟩
    let P1 : Nat → Hp → Prop := fun q H => Same H1 H ∧ H D = some (.lst (((((m.take i).flatten ++ r.take q)).map f).map V.int))
    refine ⟨fun q k H => k = (r.map V.int).length - q ∧ q ≤ (r.map V.int).length ∧ P1 q H, ⟨(r.map V.int).length, by simp, Nat.zero_le _, sH, by rw [List.take_zero, List.append_nil]; exact eD⟩, ?_⟩
    rintro q k H3 ⟨rfl, hq, s3, e3⟩
    by_cases hlt1 : q < (r.map V.int).length
    · refine .inr ⟨w1.goes q H3 hlt1 (Same.seqT s3 har), P1 (q + 1), fun H' p' => ⟨(r.map V.int).length - (q + 1), by omega, rfl, hlt1, p'⟩, fun x H4 y => ?_⟩
      obtain ⟨rfl, ex1⟩ := w1.yields q H3 x H4 hlt1 (Same.seqT s3 har) y
      obtain ⟨z, ez, rfl⟩ := ints_get ex1
      refine ⟨hw1 _ _, tyes_of (step z _ _ _ ⟨_, e3, small1000 ?_, upk s3, ?_⟩)⟩
      · rw [List.length_map] at hlt1
        rw [List.length_map, List.length_map, List.length_append, List.length_take]
        omega
      · rw [upd_same, List.take_add_one, ez]
        simp [List.map_append]
    · have e : q = (r.map V.int).length := by omega
      subst e
      refine .inl ⟨w1.stops H3 (Same.seqT s3 har), s3, ?_⟩
      have e2 : List.take (r.map V.int).length r = r := List.take_of_length_le (by rw [List.length_map]; exact Nat.le_refl _)
      rw [e2] at e3
      rw [etk, List.flatten_append]
      simp only [List.flatten_cons, List.flatten_nil, List.append_nil]
      exact e3
  · have e : i = ws.length := by omega
    subst e
    rw [List.take_of_length_le (by omega)] at eD
    exact .inl ⟨w.stops H (Same.seqT sH ha), done H sH eD⟩
end Gm
/-! Of an own class: x in c, c == an object of another own class, c != None; range(a, b) as a value; a comprehension over the rows and their items. -/
namespace Gm
open PySem PySem.Spec PyProof.Rows L2
section
variable {X : Cx} {C f : Addr} {fd : FuncData} {ps : List Str} {CX : CXT} {k : Nat} {sp : Sp} {E : XK}
/-- x in c: the answer of the own def is True or False -/
def rOwnIn (C : Addr) (sp : Sp) (E : XK) (neg : Bool) : R2 := fun x y H Q => ∃ b dx fs, y = .ref b ∧ H b = some (.ins C dx fs) ∧ sp [y, x] H (fun v H' => ∃ t, v = .bl t ∧ Q (.bl (if neg then !t else t)) H') E
theorem op_ownIn (hs : PySem.W.findIn X.K (.ref C) "__contains__" = some (some (.ref f))) (hf : PySem.W.isFn X.K (.ref f) = true)
    (F : FnOk X.prog X.w X.K X.mg X.base CX k f fd ps sp) (hr : Room k X.A) (hb : Binds X.K fd ps []) (hx : Passes CX X E) : OpR X (compareOp .In) (rOwnIn C sp E false) := by
  intro pn sg σ H x y v u Q I rx ry h
  obtain ⟨b, dx, fs, rfl, ha, q⟩ := h
  cases ry
  obtain ⟨od, J⟩ := inst_of I ha
  obtain ⟨m, hF⟩ := I.fr
  refine PySem.W.in_K hF I.ok.mod.kin J hs hf ?_
  refine wpAny_mono (run_fn (us := [.ref b, v]) (vs := [.ref b, x]) F hr hb .nil hx I (.cons rfl (.cons rx .nil)) q) (fun w' s' z => ?_) fun _ _ z => z
  obtain ⟨zR, HR, IR, relZ, t, rfl, postZ⟩ := z
  cases (show w' = Value.bool t from relZ)
  exact wpAny_truthy_bool ⟨.bl t, HR, IR, rfl, postZ⟩
theorem op_ownNotIn (hs : PySem.W.findIn X.K (.ref C) "__contains__" = some (some (.ref f))) (hf : PySem.W.isFn X.K (.ref f) = true)
    (F : FnOk X.prog X.w X.K X.mg X.base CX k f fd ps sp) (hr : Room k X.A) (hb : Binds X.K fd ps []) (hx : Passes CX X E) : OpR X (compareOp .NotIn) (rOwnIn C sp E true) := by
  intro pn sg σ H x y v u Q I rx ry h
  obtain ⟨b, dx, fs, rfl, ha, q⟩ := h
  cases ry
  obtain ⟨od, J⟩ := inst_of I ha
  obtain ⟨m, hF⟩ := I.fr
  refine PySem.W.notIn_K hF I.ok.mod.kin J hs hf ?_
  refine wpAny_mono (run_fn (us := [.ref b, v]) (vs := [.ref b, x]) F hr hb .nil hx I (.cons rfl (.cons rx .nil)) q) (fun w' s' z => ?_) fun _ _ z => z
  obtain ⟨zR, HR, IR, relZ, t, rfl, postZ⟩ := z
  cases (show w' = Value.bool t from relZ)
  exact wpAny_truthy_bool ⟨.bl (!t), HR, IR, rfl, postZ⟩
/-- c == an object of another own class -/
def rOwnCmpO (C C2 : Addr) (sp : Sp) (E : XK) : R2 := fun x y H Q => ∃ a b dx fs dy gs, x = .ref a ∧ y = .ref b ∧ H a = some (.ins C dx fs) ∧ H b = some (.ins C2 dy gs) ∧ sp [x, y] H Q E
theorem op_ownCmpO {C2 : Addr} (hs : PySem.W.findIn X.K (.ref C) "__eq__" = some (some (.ref f))) (hf : PySem.W.isFn X.K (.ref f) = true) (hnf : PySem.W.notFirst X.K C (.ref C2) = true)
    (F : FnOk X.prog X.w X.K X.mg X.base CX k f fd ps sp) (hr : Room k X.A) (hb : Binds X.K fd ps []) (hx : Passes CX X E) : OpR X (compareOp .Eq) (rOwnCmpO C C2 sp E) := by
  intro pn sg σ H x y v u Q I rx ry h
  obtain ⟨a, b, dx, fs, dy, gs, rfl, rfl, ha, hb', q⟩ := h
  cases rx
  cases ry
  obtain ⟨od, J⟩ := inst_of I ha
  obtain ⟨od', J'⟩ := inst_of I hb'
  obtain ⟨m, hF⟩ := I.fr
  show wpAny _ _ (richCompare .Eq (.ref a) (.ref b)) _ _ _
  refine PySem.W.cmp_K (op := .Eq) (tb := .ref C2) hr.units0 hF I.ok.mod.kin J J'.type hnf hs hf ?_
  refine wpAny_mono (run_fn (us := [.ref a, .ref b]) (vs := [.ref a, .ref b]) F hr hb .nil hx I (.cons rfl (.cons rfl .nil)) q) (fun w s' z => ?_) fun _ _ z => z
  obtain ⟨zR, HR, IR, relZ, postZ⟩ := z
  exact SlX.cmpback relZ ⟨zR, HR, IR, relZ, postZ⟩
end
end Gm
/-! any(a tuple of ints) -/
namespace Gm
open PySem PySem.Spec PyProof.Rows L2
theorem iter_anyT {prog : Program} {w : World} {A : Around} {E : Value → Shared → Prop} {s : Shared} {l : Addr} {items : Array Value} {Q : Value → Shared → Prop} (hl : s.heap.IsTuple l items)
    (h : ∀ s₂ : Shared, s₂ = { s with heap := s.heap.push { cls := .type "tuple_iterator", data := .fields #[.ref l, .int 0 0] } } →
      (s₂.heap.IsTupleIter s.heap.objs.size l 0 ∧ s₂.heap.IsTuple l items) → l ≠ s.heap.objs.size → Q (.ref s.heap.objs.size) s₂) : wpAny (model prog w) A (pyIter (.ref l)) Q E s := by
  have hlt : l < s.heap.objs.size := by obtain ⟨_, e, _⟩ := hl; exact Heap.lt_size e
  exact wpAny_pyIter_tuple hl (h _ rfl ⟨⟨_, Heap.get?_push_size _ rfl, rfl, rfl⟩, hl.push _⟩ (Nat.ne_of_lt hlt))
theorem truth_ints {prog : Program} {w : World} {A : Around} {ns : List Int} {its : List Value} (e : Vals (ns.map V.int) its) :
    TruthOf prog w A (fun i v => its.toArray[i]? = some v) (fun i => ns.getD i 0 != 0) := fun i v s Q E hv hq => by
  have hv' : its[i]? = some v := by simpa using hv
  obtain ⟨z, t, hz, rfl⟩ : ∃ z t, ns[i]? = some z ∧ v = Value.int z t := by
    clear hq hv
    induction ns generalizing its i with
    | nil => cases e; cases hv'
    | cons n ns ih =>
      cases e with
      | cons x xs =>
        cases i with
        | zero =>
          obtain ⟨t, ht⟩ := x
          refine ⟨n, t, rfl, ?_⟩
          have : _ = v := Option.some.inj hv'
          rw [← this, ht]
        | succ i => exact ih xs i hv'
  have hg : (ns.getD i 0 != 0) = (z != 0) := by rw [List.getD_eq_getElem?_getD, hz] <;> rfl
  have hq' : Q (ns.getD i 0 != 0) s := hq
  rw [hg] at hq'
  exact PySem.P.truthy_int hq'
theorem any_rangeI : ∀ ns : List Int, (List.range ns.length).any (fun i => ns.getD i 0 != 0) = ns.any (fun z => z != 0)
  | [] => rfl
  | b :: bs => by
    rw [List.length_cons, List.range_succ_eq_map, List.any_cons, List.any_map, List.any_cons, ← any_rangeI bs]
    all_goals rfl
section
variable {X : Cx}
def rAnyI (K : PySem.W.Frag) : List V → Hp → VK → Prop := fun vs H Q => ∃ (a : Addr) (ns : List Int), vs = [V.ref a] ∧ SqT K H a (ns.map V.int) ∧ Q (.bl (ns.any fun z => z != 0)) H
theorem cr_anyI (hc : X.calm = true) : CallR X (.builtin "any") (rAnyI X.K) := by
  intro pins s σ H vs us Q I r h
  obtain ⟨a, ns, rfl, hs, q⟩ := h
  obtain ⟨its, rv, hl, _⟩ := I.tuple hs
  rw [Vals.ref1 r]
  refine call_any_walk (iter_anyT hl fun s₂ e2 st hne => ?_)
  subst e2
  refine ⟨_, _, _, _, _, _, _, rfl, Walks.tuple (A := X.A.in1) (I.ok.hd hc) _ a hne its.toArray, st, truth_ints rv, fun h' tk hk => ?_⟩
  refine ⟨.bl _, H, I.kept fun b o eo => hk b o (fun hmem => ?_) (Heap.get?_push_of_some _ eo), ?_, q⟩
  · rcases List.mem_cons.mp hmem with e1 | hmem
    · exact absurd (e1 ▸ Heap.lt_size eo) (Nat.lt_irrefl _)
    · cases hmem
  · have hlen : its.length = ns.length := by have := rv.length; rw [List.length_map] at this; omega
    show Value.bool _ = Value.bool _
    rw [← any_rangeI, List.size_toArray, hlen]
theorem anyIK (K : PySem.W.Frag) (hK : X.K = K) (hc : X.calm = true) : CallR X (.builtin "any") (rAnyI K) := by subst hK; exact cr_anyI hc
end
end Gm
/-! try with several clauses, each with a name or without -/
namespace Gm
open PySem PySem.Spec PyProof.Rows L2
abbrev Clause := Value × Option Nat × (Addr → Value → Option Addr → TS)
/-- behind a clause its name is gone -/
def endI (i : Option Nat) (D : Ends) : Ends := match i with
  | none => D
  | some i => { nx := fun σ' H' => D.nx (σ'.set i none) H', rt := D.rt, bk := fun σ' H' => D.bk (σ'.set i none) H', ct := fun σ' H' => D.ct (σ'.set i none) H' }
def setI (i : Option Nat) (a : Addr) (σ : L2.St) : L2.St := match i with
  | none => σ
  | some i => σ.set i (some (.ref a))
def wCl (K : PySem.W.Frag) (Wout : WX) (D : Ends) : List Clause → WX
  | [] => Wout
  | (c, i, ts) :: r => fun cls d σ H => ∃ b, PySem.W.exmOne K cls c = some b ∧ (b = true → ∀ a, H a = none → ts a cls d (endI i D) (setI i a σ) H) ∧ (b = false → wCl K Wout D r cls d σ H)
inductive ClsOk (X : Cx) : List ExceptHandler → List Clause → Prop
  | nil : ClsOk X [] []
  | bare {x : Str} {c : Value} {ts : Addr → Value → Option Addr → TS} {b₀ : Stmt} {suite : List Stmt} {np pos' : Pos} {hds : List ExceptHandler} {l : List Clause} (hc : Names X x c)
      (hsu : ∀ (a : Addr) (oe : Obj) (cls : Value) (d : Option Addr) (pn : List (Addr × Obj)), Zc cls d oe → (∃ vs, oe.data = .fields vs) → PSs (X.suite a ((a, oe) :: pn)) (b₀ :: suite) (ts a cls d)) (r : ClsOk X hds l) :
      ClsOk X (.ExceptHandler (some (.Name x np)) none (b₀ :: suite) pos' :: hds) ((c, none, ts) :: l)
  | named {x n : Str} {c : Value} {i : Nat} {ts : Addr → Value → Option Addr → TS} {b₀ : Stmt} {suite : List Stmt} {np pos' : Pos} {hds : List ExceptHandler} {l : List Clause} (hc : Names X x c) (hN : X.N.Nodup) (hi : X.N[i]? = some n) (hln : X.env.kindOf n = some .local)
      (hsu : ∀ (a : Addr) (oe : Obj) (cls : Value) (d : Option Addr) (pn : List (Addr × Obj)), Zc cls d oe → (∃ vs, oe.data = .fields vs) → PSs (X.suite a ((a, oe) :: pn)) (b₀ :: suite) (ts a cls d)) (r : ClsOk X hds l) :
      ClsOk X (.ExceptHandler (some (.Name x np)) (some n) (b₀ :: suite) pos' :: hds) ((c, some i, ts) :: l)
section
variable {X : Cx} {pins : List (Addr × Obj)}
/-- how a statement's end in another context is one here -/
theorem sp_back {D D' : Ends} {f : Flow} {s : Shared} {X' : Cx} {pins' : List (Addr × Obj)} (h : SP X' pins' D' f s) (ok : ∀ σ H, Inv X' pins' σ H s → Inv X pins σ H s) (nx : ∀ σ H, D'.nx σ H → D.nx σ H) (rt : ∀ v H, D'.rt v H → D.rt v H) (bk : ∀ σ H, D'.bk σ H → D.bk σ H) (ct : ∀ σ H, D'.ct σ H → D.ct σ H) : SP X pins D f s := by
  cases f with
  | next => obtain ⟨σ, H, I, q⟩ := h; exact ⟨σ, H, ok _ _ I, nx _ _ q⟩
  | brk => obtain ⟨σ, H, I, q⟩ := h; exact ⟨σ, H, ok _ _ I, bk _ _ q⟩
  | cont => obtain ⟨σ, H, I, q⟩ := h; exact ⟨σ, H, ok _ _ I, ct _ _ q⟩
  | ret u => obtain ⟨v, σ, H, I, r, q⟩ := h; exact ⟨v, σ, H, ok _ _ I, r, rt _ _ q⟩
end
section
variable {X : Cx} {body : List Stmt} {h₀ : ExceptHandler} {hds : List ExceptHandler} {l : List Clause} {pos : Pos} {tb : WX → TS} {Wout : WX}
theorem ps_try_cl (hs : X.stack = X.env :: X.outer) (hf : X.env.frame = some X.env.locals) (tk : Takes X Wout)
    (hb : ∀ (W : WX) (pn : List (Addr × Obj)) (xe : Value → Shared → Prop), Takes (X.tr pn xe) W → PassesOwn (model X.prog X.w) X.A X.env xe → PSs (X.tr pn xe) body (tb W))
    (hh : ClsOk X (h₀ :: hds) l) : PS X (.Try body (h₀ :: hds) [] [] pos) (fun D σ H => tb (wCl X.K Wout D l) D σ H) := by
  refine ⟨fun pins s σ H D I h => ?_⟩
  have ok := I.ok
  have hfr : X.A.frames = some (X.env :: X.outer) := by rw [ok.frames, hs]
  refine wpAny_Try_except ?_
  refine wpAny_mono ((hb (wCl X.K Wout D l) (X.pn ++ pins) (fun e s₁ => wpAny (model X.prog X.w) X.A (noteFrame e X.env) (fun _ s₂ => wpAny (model X.prog X.w) X.A (setFlight e none) (fun _ s₃ =>
    wpAny (model X.prog X.w) X.A (handleBy e X.env (h₀ :: hds)) (SP X pins D) X.xe s₃) X.xe s₂) X.xe s₁) (fun u s' xx => ?caught) PassesOwn.looking).run [] s σ H D (I.toTry _) h) (fun f s1 hsp => ?ends) (fun e s1 he => he)
  case ends =>
    have back : SP X pins D f s1 := sp_back hsp (fun _ _ J => J.ofTry ok) (fun _ _ q => q) (fun _ _ q => q) (fun _ _ q => q) (fun _ _ q => q)
    cases f with
    | next => exact wpAny_execs_nil back
    | brk => exact back
    | cont => exact back
    | ret u => exact back
  case caught =>
    obtain ⟨a, B, sI, pins', σ', H', cls, d, rfl, J', nb, up, sky, na, os, ag, w⟩ := xx
    have J : Inv X pins σ' H' sI := J'.ofTry ok
    rw [show (X.tr (X.pn ++ pins) _).stack = X.env :: X.outer from hs] at sky
    show wpAny (model X.prog X.w) X.A (noteFrame (.ref a) X.env) _ _ _
    refine Sky.land Zc.steady hfr hf sky fun h3 fl3 up3 => ?_
    have J3 : Inv X pins σ' H' { s' with heap := h3 } := J.landed nb fl3.1 (up.trans up3) os ag
    obtain ⟨oe3, vs3, he3, hz3, hd3⟩ := fl3.there
    have nfr : a ∉ frs (X.env :: X.outer) := fun hm => by
      obtain ⟨_, o', e', hnf⟩ := fl3.2.2.1.mem hm
      rw [he3] at e'
      cases e'
      exact hnf _ hd3
    have nL : a ≠ X.env.locals := fun z => nfr (List.mem_filterMap.mpr ⟨X.env, List.mem_cons_self, by rw [hf, z]⟩)
    have nF : a ∉ X.fs := fun hm => by
      obtain ⟨e, he, q⟩ := List.mem_filterMap.mp hm
      exact nfr (List.mem_filterMap.mpr ⟨e, List.mem_cons_of_mem _ he, q⟩)
    have S3 := J3.suite he3 hd3 na nL nF
    have LT : PySem.W.Looks (model X.prog X.w) h3 (typeOf (.ref a)) cls := fun A Q E s k q => wpAny_typeOf_ref (k _ _ he3) (by rw [hz3.1]; exact q)
    have named : ∀ {x : Str} {c : Value} {np : Pos} {Q : Value → Shared → Prop} {E : Value → Shared → Prop}, Names X x c → Q c { s' with heap := h3 } → wpAny (model X.prog X.w) (X.A.mark (some (.ref a))) (eval (.Name x np) X.env) Q E { s' with heap := h3 } := fun {x c np Q E} hc q => by
      obtain ⟨hg, hdbg, hm | ⟨hm, hv, hnn⟩⟩ := hc
      · exact ld_glob (X := X.suite a ((a, oe3) :: (X.pn ++ pins))) S3 hg hm q hdbg
      · exact ld_blt (X := X.suite a ((a, oe3) :: (X.pn ++ pins))) S3 hg hm hv q hnn hdbg
    -- no clause is left
    have onward : Wout cls d σ' H' → wpAny (model X.prog X.w) X.A (handleBy (.ref a) X.env []) (SP X pins D) X.xe { s' with heap := h3 } := fun w => by
      refine wpAny_handleBy_nil ?_
      obtain ⟨_, _, _, oe, vs, T, oT, ts', he, hz, hd, h1, hr⟩ := id fl3
      unfold PySem.passOn
      refine wpAny_bind (wpAny_field he hd h1 ?_)
      rw [if_neg (show ¬ ((Value.ref T == Value.none) = true) from by simp)]
      have fin : wpAny (model X.prog X.w) X.A (setFlight (.ref a) X.env.frame) (fun _ s4 => wpAny (model X.prog X.w) X.A (throw (.ref a) : Sem Flow) (SP X pins D) X.xe s4) X.xe { s' with heap := h3 } := by
        rw [hf]
        refine HandSPX.setFlight_upZ fl3 fun h4 hh4 up4 => wpAny_throw (tk _ _ ?_)
        exact ⟨a, B, sI, pins, σ', H', cls, d, rfl, J, nb, (up.trans up3).trans up4, .inr (.inr (by rw [hs]; exact hh4)), na, os, ag, w⟩
      first
        | exact wpAny_bind (wpAny_pure (wpAny_bind fin))
        | exact wpAny_bind fin
    clear h hb
    suffices go : ∀ {hds' : List ExceptHandler} {l' : List Clause}, ClsOk X hds' l' → wCl X.K Wout D l' cls d σ' H' → wpAny (model X.prog X.w) X.A (handleBy (.ref a) X.env hds') (SP X pins D) X.xe { s' with heap := h3 } from go hh w
    intro hds' l' hk w
    induction hk with
    | nil => exact onward w
    | @bare x c ts b₀ suite np pos' hds2 l2 hc hsu r ih =>
      obtain ⟨b, hb1, hyes, hno⟩ := w
      refine wpAny_handleBy_cons (codeAny_handlers_test ?_) (by intro q; cases q)
      refine named hc ((PySem.W.exm_one (M := model X.prog X.w) (J3.kIn) LT hb1).here ?_)
      cases b with
      | false => exact ih (hno rfl)
      | true =>
        refine codeAny_handlers_suite ?_
        refine HandSPX.lands_againZ fl3 fun h4 fl4 up4 => ?_
        have J4 : Inv X pins σ' H' { s' with heap := h4 } := J.landed nb fl4.1 ((up.trans up3).trans up4) os ag
        obtain ⟨oe4, vs4, he4, hz4, hd4⟩ := fl4.there
        have S4 := J4.suite he4 hd4 na nL nF
        refine wpAny_mono ((hsu a oe4 cls d (X.pn ++ pins) hz4 ⟨_, hd4⟩).run [] _ _ H' _ S4 (hyes rfl a na)) (fun f s6 hsp => ?_) (fun _ _ z => False.elim z)
        have back : SP X pins D f s6 := sp_back hsp (fun _ _ J => J.unsuite ok) (fun _ _ q => q) (fun _ _ q => q) (fun _ _ q => q) (fun _ _ q => q)
        cases f <;> exact back
    | @named x n c i ts b₀ suite np pos' hds2 l2 hc hN hi hln hsu r ih =>
      obtain ⟨b, hb1, hyes, hno⟩ := w
      refine wpAny_handleBy_cons (codeAny_handlers_test ?_) (by intro q; cases q)
      refine named hc ((PySem.W.exm_one (M := model X.prog X.w) (J3.kIn) LT hb1).here ?_)
      cases b with
      | false => exact ih (hno rfl)
      | true =>
        refine codeAny_handlers_suite_as ?_
        refine HandSPX.lands_againZ fl3 fun h4 fl4 up4 => ?_
        have J4 : Inv X pins σ' H' { s' with heap := h4 } := J.landed nb fl4.1 ((up.trans up3).trans up4) os ag
        obtain ⟨oe4, vs4, he4, hz4, hd4⟩ := fl4.there
        have S4 := J4.suite he4 hd4 na nL nF
        refine store_ok (X := X.suite a ((a, oe4) :: (X.pn ++ pins))) (v := .ref a) S4 hN hi (.inl hln) rfl (fun s5 S5 => ?_) (.inr hln)
        refine wpAny_mono ((hsu a oe4 cls d (X.pn ++ pins) hz4 ⟨_, hd4⟩).run [] s5 _ H' _ S5 (hyes rfl a na)) (fun f s6 hsp => ?_) (fun _ _ z => False.elim z)
        have gone : ∀ {σ6 : L2.St} {H6 : Hp} {Q : Shared → Prop}, Inv (X.suite a ((a, oe4) :: (X.pn ++ pins))) [] σ6 H6 s6 → (∀ s7, Inv X pins (σ6.set i none) H6 s7 → Q s7) →
            wpAny (model X.prog X.w) X.A (do bindName X.env n .none; unbindBehindTheSuite X.env n pos') (fun _ s7 => Q s7) X.xe s6 := fun {σ6 H6 Q} S6 hq => gone_ok (S6.unsuite ok) hN hi hln hq
        cases f with
        | next =>
          obtain ⟨σ6, H6, S6, q6⟩ := hsp
          exact gone S6 fun s7 J7 => ⟨_, _, J7, q6⟩
        | brk =>
          obtain ⟨σ6, H6, S6, q6⟩ := hsp
          exact gone S6 fun s7 J7 => ⟨_, _, J7, q6⟩
        | cont =>
          obtain ⟨σ6, H6, S6, q6⟩ := hsp
          exact gone S6 fun s7 J7 => ⟨_, _, J7, q6⟩
        | ret u =>
          obtain ⟨v6, σ6, H6, S6, r6, q6⟩ := hsp
          exact gone S6 fun s7 J7 => ⟨_, _, _, J7, r6, q6⟩
end
end Gm
/-! isinstance(e, c), e a caught error that has a dict of its own -/
namespace Gm
open PySem PySem.Spec PyProof.Rows L2
def rIsX (K : PySem.W.Frag) (cls : Value) (d : Option Addr) (D a : Addr) : List V → Hp → VK → Prop := fun xs H Q => ∃ (c : V) (cv : Value) (b : Bool) (dd : Addr) (fs : List (Str × V)), xs = [.ref a, c] ∧ (∀ u, RelV c u → u = cv) ∧ cls = .ref D ∧ d = some dd ∧ H dd = some (.xd fs) ∧ PySem.W.kitOne K (.ref D) cv = some b ∧ Q (.bl b) H
theorem call_isX {X : Cx} {a D : Addr} {oe : Obj} {cls : Value} {d : Option Addr} {pn : List (Addr × Obj)} (hcl : (PySem.W.clsIn X.K D).isSome = true) (T : XfC X.K D) (ha : PySem.W.findIn X.K (.ref D) "__class__" = some (some (.builtin "object.__class__")))
    (hn : PySem.W.specialIn X.K (.builtin "object.__class__") "__get__" = some (some (.builtin "getset_descriptor.__get__"))) (ht : PySem.W.takesIn X.K (.builtin "object.__class__") = some true) (hm : PySem.W.mroIn X.K D (.type "object") = some true)
    (hz : Zc cls d oe) (hf : ∃ vs, oe.data = .fields vs) : CallR (X.suite a ((a, oe) :: pn)) (.builtin "isinstance") (rIsX X.K cls d D a) := by
  intro pins s σ H xs us Q I r h
  obtain ⟨c, cv, b, dd, fs, rfl, hcv, ec, ed, ea, e, q⟩ := h
  subst ec ed
  cases r with
  | cons rx rr =>
    cases rr with
    | cons rt rr =>
      cases rr
      cases rx
      have ec := hcv _ rt
      subst ec
      obtain ⟨hget, _⟩ := I.pin (a, oe) (List.mem_append.mpr (.inl List.mem_cons_self))
      obtain ⟨vs, hv⟩ := hf
      have hx : ObjOk X.prog X.w H s.heap dd (.xd fs) := I.hok dd _ ea
      obtain ⟨mA, hns, _⟩ := hx
      obtain ⟨od, ho, _⟩ := lookIn_ns hns
      have J : PySem.W.InstAt s.heap a oe D (some od) := ⟨hget, hz.1, by unfold PySem.W.notCls; rw [hv] <;> rfl, by rw [hz.2]; exact ho⟩
      exact PySem.W.kia_one (PySem.W.kitx_exc (od := some od) hcl T.ga T.gg T.exC ha hn ht hm) I.kIn J e (fun z => nomatch z) fun tk => ⟨.bl b, H, I.kept (t' := tk) fun _ _ z => z, rfl, q⟩
/-- isinstance(e, c), e a caught error without a dict of its own, its class told by the reading -/
def rIsY (K : PySem.W.Frag) (cls : Value) (d : Option Addr) (D a : Addr) : List V → Hp → VK → Prop := fun xs H Q => ∃ (c : V) (cv : Value) (b : Bool), xs = [.ref a, c] ∧ (∀ u, RelV c u → u = cv) ∧ cls = .ref D ∧ d = none ∧ PySem.W.kitOne K (.ref D) cv = some b ∧ Q (.bl b) H
theorem call_isY {X : Cx} {a D : Addr} {oe : Obj} {cls : Value} {d : Option Addr} {pn : List (Addr × Obj)} (hcl : (PySem.W.clsIn X.K D).isSome = true) (T : XfC X.K D) (ha : PySem.W.findIn X.K (.ref D) "__class__" = some (some (.builtin "object.__class__")))
    (hn : PySem.W.specialIn X.K (.builtin "object.__class__") "__get__" = some (some (.builtin "getset_descriptor.__get__"))) (ht : PySem.W.takesIn X.K (.builtin "object.__class__") = some true) (hm : PySem.W.mroIn X.K D (.type "object") = some true)
    (hz : Zc cls d oe) (hf : ∃ vs, oe.data = .fields vs) : CallR (X.suite a ((a, oe) :: pn)) (.builtin "isinstance") (rIsY X.K cls d D a) := by
  intro pins s σ H xs us Q I r h
  obtain ⟨c, cv, b, rfl, hcv, ec, ed, e, q⟩ := h
  subst ec ed
  cases r with
  | cons rx rr =>
    cases rr with
    | cons rt rr =>
      cases rr
      cases rx
      have ec := hcv _ rt
      subst ec
      obtain ⟨hget, _⟩ := I.pin (a, oe) (List.mem_append.mpr (.inl List.mem_cons_self))
      obtain ⟨vs, hv⟩ := hf
      have J : PySem.W.InstAt s.heap a oe D none := ⟨hget, hz.1, by unfold PySem.W.notCls; rw [hv] <;> rfl, by rw [hz.2]; trivial⟩
      exact PySem.W.kia_one (PySem.W.kitx_exc (od := none) hcl T.ga T.gg T.exC ha hn ht hm) I.kIn J e (fun z => nomatch z) fun tk => ⟨.bl b, H, I.kept (t' := tk) fun _ _ z => z, rfl, q⟩
end Gm
/-! try with one clause that names two classes and whose suite raises anew -/
namespace Gm
open PySem PySem.Spec PyProof.Rows L2 HotX L2H
def wPair (K : PySem.W.Frag) (c₁ c₂ : Value) (ts : Addr → Value → Option Addr → TS) (D : Ends) : WX := fun cls d σ H => PySem.W.exmAny K cls [c₁, c₂] = some true ∧ ∀ a, H a = none → ts a cls d D σ H
theorem flying_push {B h : Heap} {l : List Env} {a : Addr} {Z : Obj → Prop} (o : Obj) (x : HandSPX.FlyingZ B l a Z h) : HandSPX.FlyingZ B l a Z (h.push o) := by
  obtain ⟨st, na, ff, oe, vs, T, oT, ts, q1, q2, q3, q4, q5, q6, q7, q8⟩ := x
  have up : ∀ b u, h.get? b = some u → (h.push o).get? b = some u := fun b u e => Heap.get?_push_of_some _ e
  exact ⟨fun b u e => up _ _ (st b u e), na, ff.of_keeps fun b u e _ => ⟨u, up _ _ e, rfl⟩, oe, vs, T, oT, ts, up _ _ q1, q2, q3, q4, q5, q6, up _ _ q7, q8⟩
section
variable {X : Cx} {x₁ x₂ : Str} {c₁ c₂ : Value} {body suite : List Stmt} {b₀ : Stmt} {p₁ p₂ tp hp pos : Pos} {kk : Nat} {tb : WX → TS} {ts : Addr → Value → Option Addr → TS} {Wout : WX}
theorem ps_try_pairX (hs : X.stack = X.env :: X.outer) (hf : X.env.frame = some X.env.locals) (n₁ : Names X x₁ c₁) (n₂ : Names X x₂ c₂)
    (hpa : ∀ hd : Option Value, PassesOwnAt (model X.prog X.w) (X.A.mark hd) X.A X.env X.xe) (tk : L2.Takes X Wout)
    (hb : ∀ (W : WX) (pn : List (Addr × Obj)) (xe : Value → Shared → Prop), L2N.Takes (X.tr pn xe) W → PassesOwn (model X.prog X.w) X.A X.env xe → PSs (X.tr pn xe) body (tb W))
    (hsu : ∀ (a : Addr) (oe : Obj) (cls : Value) (d : Option Addr) (pn : List (Addr × Obj)), L2.Takes (suiteX X a ((a, oe) :: pn)) Wout → HotC (suiteX X a ((a, oe) :: pn)) → PSs (suiteX X a ((a, oe) :: pn)) (b₀ :: suite) (ts a cls d)) :
    PS X (.Try body [.ExceptHandler (some (.Tuple [.Name x₁ p₁, .Name x₂ p₂] kk tp)) none (b₀ :: suite) hp] [] [] pos) (fun D σ H => tb (wPair X.K c₁ c₂ ts D) D σ H) := by
  refine ⟨fun pins s σ H D I h => ?_⟩
  have ok := I.ok
  have hfr : X.A.frames = some (X.env :: X.outer) := by rw [ok.frames, hs]
  refine wpAny_Try_except ?_
  refine wpAny_mono ((hb (wPair X.K c₁ c₂ ts D) (X.pn ++ pins) (fun e sa => wpAny (model X.prog X.w) X.A (noteFrame e X.env) (fun _ sb => wpAny (model X.prog X.w) X.A (setFlight e none) (fun _ sc =>
    wpAny (model X.prog X.w) X.A (handleBy e X.env [.ExceptHandler (some (.Tuple [.Name x₁ p₁, .Name x₂ p₂] kk tp)) none (b₀ :: suite) hp]) (SP X pins D) X.xe sc) X.xe sb) X.xe sa) (fun u s' xx => ?caught) PassesOwn.looking).run [] s σ H D (I.toTry _) h) (fun f s1 hsp => ?ends) (fun e s1 he => he)
  case ends =>
    cases f with
    | next => exact let ⟨_, _, J, q⟩ := hsp; wpAny_execs_nil ⟨_, _, J.ofTry ok, q⟩
    | brk => exact let ⟨_, _, J, q⟩ := hsp; ⟨_, _, J.ofTry ok, q⟩
    | cont => exact let ⟨_, _, J, q⟩ := hsp; ⟨_, _, J.ofTry ok, q⟩
    | ret u => exact let ⟨_, _, _, J, r, q⟩ := hsp; ⟨_, _, _, J.ofTry ok, r, q⟩
  case caught =>
    obtain ⟨a, B, sI, pins', σ', H', cls, d, rfl, J', nb, up, sky, na, os, ag, hm, w⟩ := xx
    have J : Inv X pins σ' H' sI := J'.ofTry ok
    rw [show (X.tr (X.pn ++ pins) _).stack = X.env :: X.outer from hs] at sky
    show wpAny (model X.prog X.w) X.A (noteFrame (.ref a) X.env) _ _ _
    refine L2N.Sky.land L2N.Zn.steady hfr hf sky fun h3 fl3 up3 => ?_
    have J3 : Inv X pins σ' H' { s' with heap := h3 } := J.landed nb fl3.1 (up.trans up3) os ag
    obtain ⟨oe3, vs3, he3, hz3, hd3⟩ := fl3.there
    have nfr : a ∉ frs (X.env :: X.outer) := fun q => by
      obtain ⟨_, o', e', hnf⟩ := fl3.2.2.1.mem q
      rw [he3] at e'
      cases e'
      exact hnf _ hd3
    have nL : a ≠ X.env.locals := fun z => nfr (List.mem_filterMap.mpr ⟨X.env, List.mem_cons_self, by rw [hf, z]⟩)
    have nF : a ∉ X.fs := fun q => by
      obtain ⟨e, he, q⟩ := List.mem_filterMap.mp q
      exact nfr (List.mem_filterMap.mpr ⟨e, List.mem_cons_of_mem _ he, q⟩)
    have S3 := J3.suite he3 hd3 na nL nF
    have nm : ∀ {x : Str} {c : Value} {np : Pos} {Q : Value → Shared → Prop} {E : Value → Shared → Prop}, Names X x c → Q c { s' with heap := h3 } → wpAny (model X.prog X.w) (X.A.mark (some (.ref a))) (eval (.Name x np) X.env) Q E { s' with heap := h3 } := fun {x c np Q E} hc q => by
      obtain ⟨hg, hdbg, hm | ⟨hm, hv, hnn⟩⟩ := hc
      · exact ld_glob (X := X.suite a ((a, oe3) :: (X.pn ++ pins))) S3 hg hm q hdbg
      · exact ld_blt (X := X.suite a ((a, oe3) :: (X.pn ++ pins))) S3 hg hm hv q hnn hdbg
    refine wpAny_handleBy_cons (codeAny_handlers_test ?_) (by intro q; cases q)
    refine wpAny_Tuple ?_
    refine wpAny_items_cons (nm n₁ ?_)
    refine wpAny_items_cons (nm n₂ ?_)
    refine wpAny_items_nil ⟨by size_fits, ?_⟩
    have kp : ∀ q o, h3.get? q = some o → (h3.push { cls := .type "tuple", data := .seq [c₁, c₂].toArray }).get? q = some o := fun _ _ z => Heap.get?_push_of_some _ z
    have LT : PySem.W.Looks (model X.prog X.w) (h3.push { cls := .type "tuple", data := .seq [c₁, c₂].toArray }) (typeOf (.ref a)) cls := fun A Q E s k q => wpAny_typeOf_ref (k _ _ (kp _ _ he3)) (by rw [hz3.1]; exact q)
    have fl5 := flying_push { cls := .type "tuple", data := .seq [c₁, c₂].toArray } fl3
    have J5 := J3.kept (t' := s'.toks) kp
    refine (PySem.W.exm_tup2 (M := model X.prog X.w) J5.kIn LT (Heap.get?_push_size h3 rfl) hm).here ?_
    refine codeAny_handlers_suite ?_
    refine HandSPX.lands_againZ fl5 fun h4 fl4 up4 => ?_
    have J4 : Inv X pins σ' H' { s' with heap := h4 } := J.landed nb fl4.1 (((up.trans up3).trans (Heap.UpToSlots.of_keeps kp)).trans up4) os ag
    obtain ⟨oe4, vs4, he4, hz4, hd4⟩ := fl4.there
    have S4 := J4.suite he4 hd4 na nL nF
    have tkS : L2.Takes (suiteX X a ((a, oe4) :: (X.pn ++ pins))) Wout := fun u2 s2 x2 => by
      obtain ⟨a2, B2, sI2, pn2, σ2, H2, cls2, d2, e2, I2, rest2⟩ := x2
      exact tk u2 s2 ⟨a2, B2, sI2, pins, σ2, H2, cls2, d2, e2, unsuiteX I2 ok, rest2⟩
    have hot : HotC (suiteX X a ((a, oe4) :: (X.pn ++ pins))) := ⟨(a, oe4), ⟨rfl, vs4, hd4, hz4.2.2 vs4 hd4⟩, List.mem_cons_self⟩
    refine wpAny_mono ((hsu a oe4 cls d (X.pn ++ pins) tkS hot).run [] _ _ H' _ (suiteX_of S4) (w a na)) (fun f s6 hsp => ?_) (fun e6 s6 z => hpa (some (.ref a)) e6 s6 z)
    cases f with
    | next => exact let ⟨_, _, S6, q⟩ := hsp; ⟨_, _, unsuiteX S6 ok, q⟩
    | brk => exact let ⟨_, _, S6, q⟩ := hsp; ⟨_, _, unsuiteX S6 ok, q⟩
    | cont => exact let ⟨_, _, S6, q⟩ := hsp; ⟨_, _, unsuiteX S6 ok, q⟩
    | ret u => exact let ⟨_, _, _, S6, r, q⟩ := hsp; ⟨_, _, _, unsuiteX S6 ok, r, q⟩
end
end Gm
/-! a def whose exceptions have no context; C(e, ..) of an own class with its __init__, told with that -/
namespace Gm
open PySem PySem.Spec PyProof.Rows L2 HotX L2H
section
variable {P : Program} {w : World} {K : PySem.W.Frag} {mg : Str → Option Value} {base : Heap}
theorem okN {x qual : Str} {st : Stmt} {f : Addr} {fd : FuncData} {N ps : List Str} {k : Nat} {sp : Sp} (F : Fun K x qual st f fd) (S : FnScope N ps (defScope st)) (ln : ∀ vs H Q E, sp vs H Q E → vs.length = ps.length)
    (hb : ∀ (cdv : Value) (A : Around) (outer : List Env) (s : Shared) (H : Hp) (vs : List V) (Q : VK) (E : XK), Room k (A.deeper (envOfC qual (defScope st) s.heap.objs.size f cdv)) → sp vs H Q E →
      ∃ t, PSs (cxOf (L2N.CX P w) P w K mg base N qual (defScope st) f cdv A outer s H E) (defBody st) t ∧ t { nx := fun _ H' => Q .non H', rt := Q } (start N vs) H) : FnOk P w K mg base (L2N.CX P w) (k + 1) f fd ps sp := by
  obtain ⟨_, _, _, _, _, _, cdv, _, _, rfl, lk, hcd⟩ := F.ex
  exact fn_of lk hcd S ln fun A outer s H vs Q E hr q => hb cdv A outer s H vs Q E hr q
end
section
variable {P : Program} {w : World} {K : PySem.W.Frag} {mg : Str → Option Value} {base : Heap}
/-- a def that runs while an exception is handled -/
theorem okHot {CX : CXT} {x qual : Str} {st : Stmt} {f : Addr} {fd : FuncData} {N ps : List Str} {k : Nat} {sp : Sp} (F : Fun K x qual st f fd) (S : FnScope N ps (defScope st)) (ln : ∀ vs H Q E, sp vs H Q E → vs.length = ps.length)
    (hb : ∀ (cdv : Value) (A : Around) (outer : List Env) (s : Shared) (H : Hp) (vs : List V) (Q : VK) (E : XK) (p : Addr × Obj), Hot1 A p → RoomH k (A.deeper (envOfC qual (defScope st) s.heap.objs.size f cdv)) → sp vs H Q E →
      ∃ t, PSs (cxH CX P w K mg base N qual (defScope st) f cdv A outer s H E p) (defBody st) t ∧ t { nx := fun _ H' => Q .non H', rt := Q } (start N vs) H) : FnH P w K mg base CX (k + 1) f fd ps sp := by
  obtain ⟨_, _, _, _, _, _, cdv, _, _, rfl, lk, hcd⟩ := F.ex
  exact fn_ofH lk hcd S ln fun A outer s H vs Q E p ht hr q => hb cdv A outer s H vs Q E p ht hr q
end
section
variable {X : Cx} {e : Expr} {es : List Expr} {ta : TA} {p pos : Pos}
theorem pmk_oexN {CX : CXT} {x : Str} {C fI : Addr} {k : Nat} {fd : FuncData} {ps : List Str} {sp : Sp} {ds : List Value} {dvs : List V} (T : OexC X.K C) (iC : PySem.W.findIn X.K (.ref C) "__init__" = some (some (.ref fI)))
    (tI : PySem.W.typeIn X.K (.ref fI) = some (.type "function")) (F1 : FnOk X.prog X.w X.K X.mg X.base CX k fI fd ps sp) (hr : Room (k + 1) X.A) (hb : Binds X.K fd ps ds) (hd : Vals dvs ds) (hx : Passes CX X (fun _ _ _ => False))
    (hg : Gl X x) (hm : X.mg x = some (.ref C)) (ha : PA X (e :: es) ta) (hdb : (x == ("__debug__" : Str)) = false := by decide)
    (he : starEach (e :: es) X.env = (false, eval e X.env) :: starEach es X.env := by rfl) (hpl : (backTo pos (starEach es X.env)).any (·.1) = false := by rfl) :
    L2N.PMk X (.Call (.Name x p) (e :: es) [] pos) (tMkO C sp dvs ta) := by
  intro pins s σ H Q I h
  obtain ⟨_, _, _, _, bm, _, _, _, _, _, _, _, _, _, _, hC, hbm⟩ := T.cls
  refine wpAny_Call_Name_kw (ld_glob I hg hm ?_ hdb)
  refine PySem.W.callWith_K (h₀ := X.base) I.ok.mod.kin T.kC (thn (ha.run pos pins s σ H _ I h) fun us s1 ⟨vs, H1, J, r1, hz, q1⟩ => ⟨J.kIn, ?_⟩) he hpl
  show wpAny _ _ (call (.ref C) us) _ _ _
  obtain ⟨hp, g, dr, tk, os⟩ := s1
  obtain ⟨n, hn⟩ : ∃ n, hp.objs.size = n := ⟨_, rfl⟩
  have hlt : hp.objs.size ≤ n + 1 := by rw [hn]; exact Nat.le_succ _
  have fresh : H1 (n + 1) = none := J.hok.fresh hlt
  have hq := q1 (n + 1) fresh
  have kk : ∀ b o, hp.get? b = some o → ((hp.push (PySem.W.kdv_tup us)).push (PySem.HandSPX.excO C n)).get? b = some o := fun b o z => Heap.get?_push_of_some _ (Heap.get?_push_of_some _ z)
  have there : ((hp.push (PySem.W.kdv_tup us)).push (PySem.HandSPX.excO C n)).get? (n + 1) = some (PySem.HandSPX.excO C n) := by subst hn; heap_get
  have J2 : Inv X pins σ (upd H1 (n + 1) (exo (n + 1) C none)) ⟨(hp.push (PySem.W.kdv_tup us)).push (PySem.HandSPX.excO C n), g, dr, tk, os⟩ :=
    J.laid (t' := tk) (a := n + 1) (o := exo (n + 1) C none) (h' := (hp.push (PySem.W.kdv_tup us)).push (PySem.HandSPX.excO C n)) kk hlt (exo_ok there)
  have r2 : Vals (V.ref (n + 1) :: (vs ++ dvs)) (Value.ref (n + 1) :: (us ++ ds)) := .cons rfl (r1.append hd)
  have hl : (Value.ref (n + 1) :: us ++ ds).length = ps.length := by
    have z := r2.length
    rw [F1.len _ _ _ _ hq] at z
    exact z.symm
  have hus : us.length ≤ sizeLine := by rw [← Paired.length r1, sizeLine_eq]; omega
  subst hn
  refine wpAny_call (PySem.HandSPX.call_own F.excBase_ValueError (fun Y => PySem.HandSPX.refsVE_contains Y bm hbm) (J.kIn _ _ hC) (PySem.W.looks_findIn J.kIn iC) (fun self => PySem.W.bind_fn J.kIn self tI) hus ?_)
  refine (codeAny_mono (F1.run _ X.stack _ _ ⟨Value.ref (hp.objs.size + 1) :: us, []⟩ (Value.ref (hp.objs.size + 1) :: (us ++ ds)) _ _ (fun _ _ _ => False) (hr.make C us []) (J2.env0.make C us []) (hb _ _ J2.kIn hl) r2 hq) fun r s' hq' => ?_)
  cases r with
  | error er => exact hx pins σ _ _ er s' J2 hq'
  | ok fl =>
    cases fl with
    | next => exact hq'.elim
    | brk => exact hq'.elim
    | cont => exact hq'.elim
    | ret u =>
      obtain ⟨v, H2, os2, bare2, un2, hok2, rv, ev, d, fs, ea, ed, hd1, q2⟩ := hq'
      subst ev
      obtain ⟨h2, g2, d2, t2, os'⟩ := s'
      obtain ⟨t0, G, JG, kG, ge, hoe, na⟩ := mk_end0 (d2 := d2) (t2 := t2) J hlt kk un2 hok2 os2 bare2 ea ed hd1
      exact ⟨rv, _, _, _, ⟨G, g2, d2, t2, os'⟩, _, .ref C, some d, rfl, JG, kG, ge, hoe, ⟨rfl, rfl, fun vs z => by cases z; rfl⟩, rfl, rfl, na, rfl, bare2, raises_own T.exC T.tyC, q2⟩
end
end Gm
/-! texts of numbers, joined and cut -/
namespace Gm
open PySem PySem.Spec PyProof.Rows L2 TL PySem.Builtin.Str PySem.StrLaws
def numS (i : Int) : Str := Str.ofString (toString i)
def isNumB (w : Str) : Bool :=
  decide ((Txt.removeprefix w ("-" : Str)).length ≤ 5) && Txt.isascii (Txt.removeprefix w ("-" : Str)) && Txt.isdigit (Txt.removeprefix w ("-" : Str)) && (!Txt.startswith (Txt.removeprefix w ("-" : Str)) ("0" : Str) || decide (w = ("0" : Str)))
def sgn? (c : Nat) : Bool := c == 45 || (decide (48 ≤ c) && decide (c ≤ 57))
def goodW (i : Int) : Bool := isNumB (numS i) && (intText? (numS i) == some i) && decide ((numS i).length ≤ 5) && (tl (numS i)).all sgn? && (decide (i < 1) || (decide (49 ≤ (tl (numS i)).headD 0) && decide ((tl (numS i)).headD 0 ≤ 57)))
theorem good_all : (List.range 2801).all (fun k => goodW ((k : Nat) - 400)) = true := by decide +kernel
structure GoodW (i : Int) : Prop where
  num : isNumB (numS i) = true
  back : intText? (numS i) = some i
  len : (numS i).length ≤ 5
  sg : ∀ c ∈ tl (numS i), sgn? c = true
  hd : 1 ≤ i → 49 ≤ (tl (numS i)).headD 0 ∧ (tl (numS i)).headD 0 ≤ 57
theorem good_of {i : Int} (h1 : -400 ≤ i) (h2 : i ≤ 2400) : GoodW i := by
  have h := List.all_eq_true.mp good_all (i + 400).toNat (List.mem_range.mpr (by omega))
  rw [show (((i + 400).toNat : Nat) : Int) - 400 = i by omega] at h
  unfold goodW at h
  simp only [Bool.and_eq_true, Bool.or_eq_true, decide_eq_true_eq, beq_iff_eq, List.all_eq_true] at h
  obtain ⟨⟨⟨⟨a, b⟩, c⟩, d⟩, e⟩ := h
  exact ⟨a, b, c, d, fun hi => by rcases e with e | e; exact absurd e (by omega); exact e⟩
/-! joining -/
theorem mem_joinL {S : List Nat} {c : Nat} : ∀ {ps : List (List Nat)}, c ∈ joinL S ps → c ∈ S ∨ ∃ p ∈ ps, c ∈ p
  | [], h => by cases h
  | [p], h => .inr ⟨p, List.mem_cons_self .., h⟩
  | p :: q :: r, h => by
    have h : c ∈ p ++ (S ++ joinL S (q :: r)) := h
    rcases List.mem_append.mp h with h | h
    · exact .inr ⟨p, List.mem_cons_self .., h⟩
    rcases List.mem_append.mp h with h | h
    · exact .inl h
    rcases mem_joinL h with h | ⟨x, hx, h⟩
    · exact .inl h
    · exact .inr ⟨x, List.mem_cons_of_mem _ hx, h⟩
theorem len_joinL {S : List Nat} {b : Nat} : ∀ {ps : List (List Nat)}, (∀ p ∈ ps, p.length ≤ b) → (joinL S ps).length ≤ ps.length * (b + S.length)
  | [], _ => Nat.zero_le _
  | [p], h => by
    have := h p (List.mem_cons_self ..)
    show p.length ≤ 1 * (b + S.length)
    omega
  | p :: q :: r, h => by
    have h1 := h p (List.mem_cons_self ..)
    have h2 := len_joinL (S := S) (ps := q :: r) fun x hx => h x (List.mem_cons_of_mem _ hx)
    show (p ++ (S ++ joinL S (q :: r))).length ≤ ((q :: r).length + 1) * (b + S.length)
    rw [List.length_append, List.length_append, Nat.succ_mul]
    omega
theorem sum_len {b : Nat} : ∀ {ys : List Str}, (∀ y ∈ ys, y.length ≤ b) → (ys.map (·.length)).sum ≤ ys.length * b
  | [], _ => Nat.zero_le _
  | y :: r, h => by
    have h1 := h y (List.mem_cons_self ..)
    have h2 := sum_len (ys := r) fun x hx => h x (List.mem_cons_of_mem _ hx)
    rw [List.map_cons, List.sum_cons, List.length_cons, Nat.succ_mul]
    omega
def rowS (r : List Int) : Str := Txt.join (" " : Str) (r.map numS)
def textS (m : List (List Int)) : Str := Txt.join ("; " : Str) (m.map rowS)
def wordsOf (s : Str) : List (List Str) := (Txt.split s ("; " : Str)).map fun r => Txt.split r (" " : Str)
def okT (s : Str) : Bool := (wordsOf s).all fun r => r.all isNumB
theorem tl_row (r : List Int) : tl (rowS r) = joinL [32] (r.map fun i => tl (numS i)) := by
  unfold rowS
  rw [join_eq, tl_join, List.map_map]
  rfl
theorem tl_text (m : List (List Int)) : tl (textS m) = joinL [59, 32] (m.map fun r => tl (rowS r)) := by
  unfold textS
  rw [join_eq, tl_join, List.map_map]
  rfl
theorem sg_free {c : Nat} (h : sgn? c = true) : c ≠ 32 ∧ c ≠ 59 := by
  unfold sgn? at h
  simp only [Bool.or_eq_true, Bool.and_eq_true, beq_iff_eq, decide_eq_true_eq] at h
  omega
theorem row_split {r : List Int} (hr : r ≠ []) (h : ∀ i ∈ r, GoodW i) : Txt.split (rowS r) (" " : Str) = r.map numS := by
  refine split_join (s := 32) (S := []) rfl (by decide +kernel) (fun e => hr (List.map_eq_nil_iff.mp e)) fun p hp hm => ?_
  obtain ⟨i, hi, rfl⟩ := List.mem_map.mp hp
  exact (sg_free ((h i hi).sg _ hm)).1 rfl
theorem text_words {m : List (List Int)} (hm : m ≠ []) (hr : ∀ r ∈ m, r ≠ []) (h : ∀ r ∈ m, ∀ i ∈ r, GoodW i) : wordsOf (textS m) = m.map fun r => r.map numS := by
  have e : Txt.split (textS m) ("; " : Str) = m.map rowS := by
    refine split_join (s := 59) (S := [32]) rfl (by decide +kernel) (fun e => hm (List.map_eq_nil_iff.mp e)) fun p hp hc => ?_
    obtain ⟨r, hr', rfl⟩ := List.mem_map.mp hp
    rw [tl_row] at hc
    rcases mem_joinL hc with hc | ⟨x, hx, hc⟩
    · exact absurd hc (by decide)
    · obtain ⟨i, hi, rfl⟩ := List.mem_map.mp hx
      exact (sg_free ((h r hr' i hi).sg _ hc)).2 rfl
  unfold wordsOf
  rw [e, List.map_map]
  exact List.map_congr_left fun r hr' => row_split (hr r hr') (h r hr')
theorem text_okT {m : List (List Int)} (hm : m ≠ []) (hr : ∀ r ∈ m, r ≠ []) (h : ∀ r ∈ m, ∀ i ∈ r, GoodW i) : okT (textS m) = true := by
  unfold okT
  rw [text_words hm hr h, List.all_eq_true]
  intro x hx
  obtain ⟨r, hr', rfl⟩ := List.mem_map.mp hx
  rw [List.all_eq_true]
  intro y hy
  obtain ⟨i, hi, rfl⟩ := List.mem_map.mp hy
  exact (h r hr' i hi).num
theorem row_len {r : List Int} (h : ∀ i ∈ r, GoodW i) (h3 : r.length ≤ 3) : (rowS r).length ≤ 18 := by
  rw [len_tl, tl_row]
  have := len_joinL (S := [32]) (b := 5) (ps := r.map fun i => tl (numS i)) fun p hp => by
    obtain ⟨i, hi, rfl⟩ := List.mem_map.mp hp
    rw [← len_tl]
    exact (h i hi).len
  rw [List.length_map] at this
  have e : [32].length = 1 := rfl
  rw [e] at this
  omega
theorem text_len {m : List (List Int)} (h : ∀ r ∈ m, ∀ i ∈ r, GoodW i) (h3 : m.length ≤ 3) (hr3 : ∀ r ∈ m, r.length ≤ 3) : (textS m).length ≤ 60 := by
  rw [len_tl, tl_text]
  have := len_joinL (S := [59, 32]) (b := 18) (ps := m.map fun r => tl (rowS r)) fun p hp => by
    obtain ⟨r, hr, rfl⟩ := List.mem_map.mp hp
    rw [← len_tl]
    exact row_len (h r hr) (hr3 r hr)
  rw [List.length_map] at this
  have e : [59, 32].length = 2 := rfl
  rw [e] at this
  omega
/-! what a text of numbers looks like -/
theorem join_spl {S : List Nat} (hS : S ≠ []) : ∀ (n : Nat) (acc l : List Nat), l.length ≤ n → joinL S (spl S 0 acc l) = acc ++ l ∧ spl S 0 acc l ≠ []
  | _, acc, [], _ => by
    rw [spl_nil]
    exact ⟨(List.append_nil _).symm, by simp⟩
  | 0, _, c :: r, h => absurd h (by simp)
  | n + 1, acc, c :: r, h => by
    have hr : r.length ≤ n := by rw [List.length_cons] at h; omega
    cases hp : pre S (c :: r) with
    | false =>
      rw [spl_miss hp]
      obtain ⟨e, ne⟩ := join_spl hS n (acc ++ [c]) r hr
      exact ⟨by rw [e, List.append_assoc]; rfl, ne⟩
    | true =>
      rw [spl_hit hp, spl_pass]
      obtain ⟨e, ne⟩ := join_spl hS n [] (r.drop (S.length - 1)) (by rw [List.length_drop]; omega)
      refine ⟨?_, by simp⟩
      have hp : (c :: r).take S.length = S := eq_of_beq hp
      have hS1 : 0 < S.length := List.length_pos_iff.mpr hS
      have e2 : S ++ r.drop (S.length - 1) = c :: r := by
        have z := List.take_append_drop S.length (c :: r)
        rw [hp] at z
        have y : (c :: r).drop S.length = r.drop (S.length - 1) := by
          obtain ⟨k, hk⟩ : ∃ k, S.length = k + 1 := ⟨S.length - 1, by omega⟩
          rw [hk]
          rfl
        rw [y] at z
        exact z
      generalize hq : spl S 0 [] (r.drop (S.length - 1)) = q at e ne
      cases q with
      | nil => exact absurd rfl ne
      | cons a t =>
        show acc ++ (S ++ joinL S (a :: t)) = acc ++ c :: r
        rw [e, List.nil_append, e2]
def Dg (c : Nat) : Prop := 48 ≤ c ∧ c ≤ 57
def Hd (l : List Nat) : Prop := ∃ c q, l = c :: q ∧ (c = 45 ∨ Dg c) ∧ (c = 48 → q = [] ∨ ∃ x t, q = x :: t ∧ (x = 32 ∨ x = 59))
def Lst (l : List Nat) : Prop := ∃ q c, l = q ++ [c] ∧ Dg c
theorem joinL_hd {s : Nat} {S : List Nat} (hs : s = 32 ∨ s = 59) : ∀ {ps : List (List Nat)}, ps ≠ [] → (∀ p ∈ ps, Hd p) → Hd (joinL (s :: S) ps)
  | [], h, _ => absurd rfl h
  | [p], _, h => h p (List.mem_cons_self ..)
  | p :: q :: r, _, h => by
    obtain ⟨c, t, rfl, h1, h2⟩ := h p (List.mem_cons_self ..)
    refine ⟨c, t ++ (s :: S ++ joinL (s :: S) (q :: r)), rfl, h1, fun e => .inr ?_⟩
    rcases h2 e with rfl | ⟨x, y, rfl, hx⟩
    · exact ⟨s, _, rfl, hs⟩
    · exact ⟨x, _, rfl, hx⟩
theorem joinL_lst {S : List Nat} : ∀ {ps : List (List Nat)}, ps ≠ [] → (∀ p ∈ ps, Lst p) → Lst (joinL S ps)
  | [], h, _ => absurd rfl h
  | [p], _, h => h p (List.mem_cons_self ..)
  | p :: q :: r, _, h => by
    obtain ⟨t, c, e, hc⟩ := joinL_lst (S := S) (ps := q :: r) (by simp) fun x hx => h x (List.mem_cons_of_mem _ hx)
    refine ⟨p ++ (S ++ t), c, ?_, hc⟩
    show p ++ (S ++ joinL S (q :: r)) = _
    rw [e, List.append_assoc, List.append_assoc]
theorem dig_of : ∀ c, c < 128 → Unicode.isDigit c = true → 48 ≤ c ∧ c ≤ 57 := by decide +kernel
theorem digits_of {d : Str} (h1 : Txt.isascii d = true) (h2 : Txt.isdigit d = true) : tl d ≠ [] ∧ ∀ c ∈ tl d, Dg c := by
  unfold Txt.isascii at h1
  unfold Txt.isdigit at h2
  rw [Bool.and_eq_true, decide_eq_true_eq, ← Array.all_toList, List.all_eq_true] at h2
  rw [← Array.all_toList, List.all_eq_true] at h1
  refine ⟨fun e => ?_, fun c hc => dig_of c (by simpa using h1 c hc) (h2.2 c hc)⟩
  have z := h2.1
  rw [len_tl, e] at z
  exact absurd z (by decide)
theorem sub0 {x y : Str} {a : Nat} (hy : tl y = [a]) : subAt x y 0 = ((tl x).take 1 == [a]) := by
  unfold subAt
  have e : y.length = 1 := by rw [len_tl, hy]; rfl
  have hy' : y.cps = #[a] := Array.toList_inj.mp hy
  rw [e, hy', Bool.eq_iff_iff, beq_iff_eq, beq_iff_eq, ← Array.toList_inj, Array.toList_extract]
  rfl
theorem num_shape {w : Str} (h : isNumB w = true) : Hd (tl w) ∧ Lst (tl w) ∧ (∀ c q, tl w = c :: q → c = 48 → q = []) := by
  unfold isNumB at h
  simp only [Bool.and_eq_true, Bool.or_eq_true] at h
  obtain ⟨⟨⟨_, h1⟩, h2⟩, h3⟩ := h
  obtain ⟨ne, dg⟩ := digits_of h1 h2
  have lst : ∀ l : List Nat, l ≠ [] → (∀ c ∈ l, Dg c) → ∃ q c, l = q ++ [c] ∧ Dg c := fun l hl hd => ⟨l.dropLast, l.getLast hl, (List.dropLast_concat_getLast hl).symm, hd _ (List.getLast_mem hl)⟩
  rw [removeprefix_eq] at ne dg h3
  by_cases hc : (decide (0 + ("-" : Str).length ≤ w.length) && subAt w ("-" : Str) 0) = true
  · rw [if_pos hc] at ne dg
    rw [Bool.and_eq_true] at hc
    have hs := hc.2
    rw [sub0 (a := 45) rfl] at hs
    have hs : (tl w).take 1 = [45] := eq_of_beq hs
    obtain ⟨q, hq⟩ : ∃ q, tl w = 45 :: q := by
      cases hw : tl w with
      | nil => rw [hw] at hs; cases hs
      | cons c q => rw [hw] at hs; injection hs with hs; exact ⟨q, by rw [hs]⟩
    have e : (w.cps.toList.drop ("-" : Str).length).take (w.length - ("-" : Str).length) = q := by
      have hq' : w.cps.toList = 45 :: q := hq
      have hl : w.length = q.length + 1 := by rw [len_tl w, hq]; rfl
      rw [show ("-" : Str).length = 1 from rfl, hl, hq', List.drop_succ_cons, List.drop_zero, Nat.add_sub_cancel, List.take_length]
    rw [e] at ne dg
    obtain ⟨t, c, et, hc2⟩ := lst q ne dg
    refine ⟨⟨45, q, hq, .inl rfl, fun z => absurd z (by decide)⟩, ⟨45 :: t, c, by rw [hq, et]; rfl, hc2⟩, fun c q e z => ?_⟩
    rw [hq] at e
    injection e with e1
    rw [← e1] at z
    exact absurd z (by decide)
  · rw [if_neg hc] at ne dg h3
    obtain ⟨c, q, hq⟩ : ∃ c q, tl w = c :: q := by
      cases hw : tl w with
      | nil => exact absurd hw ne
      | cons c q => exact ⟨c, q, rfl⟩
    have z : c = 48 → q = [] := fun z => by
      rcases h3 with h3 | h3
      · rw [Bool.not_eq_true'] at h3
        unfold Txt.startswith at h3
        rw [sub0 (a := 48) rfl, hq, z] at h3
        have hl : w.length = q.length + 1 := by rw [len_tl w, hq]; rfl
        have : decide (0 + ("0" : Str).length ≤ w.length) = true := decide_eq_true (by show 0 + 1 ≤ w.length; omega)
        rw [this] at h3
        cases h3
      · have e := of_decide_eq_true h3
        rw [e] at hq
        have hq : [48] = c :: q := hq
        injection hq with _ hq
        exact hq.symm
    refine ⟨⟨c, q, hq, .inr (dg c (by show c ∈ tl w; rw [hq]; exact List.mem_cons_self ..)), fun y => .inl (z y)⟩, lst _ ne dg, fun c' q' e z' => ?_⟩
    rw [hq] at e
    injection e with e1 e2
    rw [← e2]
    exact z (e1.trans z')
theorem okT_shape {s : Str} (h : okT s = true) : Hd (tl s) ∧ Lst (tl s) := by
  unfold okT wordsOf at h
  rw [List.all_eq_true] at h
  have e1 := split_spl s ("; " : Str) (by simp [show tl ("; " : Str) = [59, 32] from rfl]) (kind_ok (by decide +kernel))
  rw [show tl ("; " : Str) = [59, 32] from rfl] at e1
  obtain ⟨j1, n1⟩ := join_spl (S := [59, 32]) (by simp) (tl s).length [] (tl s) (Nat.le_refl _)
  rw [← e1] at j1 n1
  have rows : ∀ p ∈ (Txt.split s ("; " : Str)).map tl, Hd p ∧ Lst p := fun p hp => by
    obtain ⟨r, hr, rfl⟩ := List.mem_map.mp hp
    have hw := h _ (List.mem_map.mpr ⟨r, hr, rfl⟩)
    rw [List.all_eq_true] at hw
    have e2 := split_spl r (" " : Str) (by simp [show tl (" " : Str) = [32] from rfl]) (kind_ok (by decide +kernel))
    rw [show tl (" " : Str) = [32] from rfl] at e2
    obtain ⟨j2, n2⟩ := join_spl (S := [32]) (by simp) (tl r).length [] (tl r) (Nat.le_refl _)
    rw [← e2] at j2 n2
    rw [List.nil_append] at j2
    have ws : ∀ p ∈ (Txt.split r (" " : Str)).map tl, Hd p ∧ Lst p := fun p hp => by
      obtain ⟨w, hw', rfl⟩ := List.mem_map.mp hp
      have := num_shape (hw w hw')
      exact ⟨this.1, this.2.1⟩
    rw [← j2]
    exact ⟨joinL_hd (.inl rfl) n2 fun p hp => (ws p hp).1, joinL_lst n2 fun p hp => (ws p hp).2⟩
  rw [List.nil_append] at j1
  rw [← j1]
  exact ⟨joinL_hd (.inr rfl) n1 fun p hp => (rows p hp).1, joinL_lst n1 fun p hp => (rows p hp).2⟩
theorem bad_last {x : Str} {c : Nat} {s : Str} (hs : tl s = [c]) (hc : ¬ Dg c) : okT (x ++ s) = false := by
  cases h : okT (x ++ s) with
  | false => rfl
  | true =>
    obtain ⟨q, d, e, hd⟩ := (okT_shape h).2
    rw [tl_append, hs] at e
    have := congrArg List.getLast? e
    rw [List.getLast?_append, List.getLast?_append] at this
    simp at this
    rw [← this] at hd
    exact absurd hd hc
theorem bad_first {x s : Str} {c : Nat} (hs : tl s = [c]) (hc : ¬ (c = 45 ∨ Dg c)) : okT (s ++ x) = false := by
  cases h : okT (s ++ x) with
  | false => rfl
  | true =>
    obtain ⟨d, q, e, hd, _⟩ := (okT_shape h).1
    rw [tl_append, hs] at e
    injection e with e1
    rw [← e1] at hd
    exact absurd hd hc
theorem bad_zero {x s : Str} {c : Nat} {q : List Nat} (hs : tl s = [48]) (hx : tl x = c :: q) (hc : c ≠ 32 ∧ c ≠ 59) : okT (s ++ x) = false := by
  cases h : okT (s ++ x) with
  | false => rfl
  | true =>
    obtain ⟨d, t, e, _, hd⟩ := (okT_shape h).1
    rw [tl_append, hs, hx] at e
    injection e with e1 e2
    rcases hd e1.symm with z | ⟨y, u, z, hy⟩
    · rw [z] at e2
      cases e2
    · rw [z] at e2
      injection e2 with e2
      rw [← e2] at hy
      omega
theorem text_head {z : Int} {r : List Int} {m : List (List Int)} (g : GoodW z) (h : 1 ≤ z) : ∃ c q, tl (textS ((z :: r) :: m)) = c :: q ∧ 49 ≤ c ∧ c ≤ 57 := by
  obtain ⟨h1, h2⟩ := g.hd h
  have e1 : ∃ q, tl (rowS (z :: r)) = (tl (numS z)).headD 0 :: q := by
    rw [tl_row]
    cases hn : tl (numS z) with
    | nil => rw [hn] at h1; exact absurd h1 (by decide)
    | cons c q =>
      cases r with
      | nil => exact ⟨q, by show tl (numS z) = _; rw [hn]; rfl⟩
      | cons y r => exact ⟨q ++ _, by show tl (numS z) ++ _ = _; rw [hn]; rfl⟩
  obtain ⟨q, e1⟩ := e1
  rw [tl_text]
  cases m with
  | nil => exact ⟨_, q, e1, h1, h2⟩
  | cons y m => exact ⟨_, q ++ _, by show tl (rowS (z :: r)) ++ _ = _; rw [e1]; rfl, h1, h2⟩
end Gm
/-! sizes of the parts of a text -/
namespace Gm
open PySem PySem.Spec PyProof.Rows L2 TL PySem.Builtin.Str PySem.StrLaws
theorem spl_len (S : List Nat) : ∀ (k : Nat) (acc l : List Nat), (spl S k acc l).length ≤ l.length + 1 ∧ ∀ p ∈ spl S k acc l, p.length ≤ acc.length + l.length
  | k, acc, [] => by
    rw [spl_nil]
    exact ⟨Nat.le_refl _, fun p hp => by rw [List.mem_singleton.mp hp]; exact Nat.le_refl _⟩
  | 0, acc, c :: r => by
    cases h : pre S (c :: r) with
    | true =>
      rw [spl_hit h]
      obtain ⟨h1, h2⟩ := spl_len S (S.length - 1) [] r
      refine ⟨by rw [List.length_cons, List.length_cons]; omega, fun p hp => ?_⟩
      rcases List.mem_cons.mp hp with rfl | hp
      · omega
      · have := h2 p hp
        rw [List.length_nil] at this
        rw [List.length_cons]
        omega
    | false =>
      rw [spl_miss h]
      obtain ⟨h1, h2⟩ := spl_len S 0 (acc ++ [c]) r
      refine ⟨by rw [List.length_cons]; omega, fun p hp => ?_⟩
      have := h2 p hp
      rw [List.length_append, List.length_singleton] at this
      rw [List.length_cons]
      omega
  | k + 1, acc, c :: r => by
    show (spl S k acc r).length ≤ _ ∧ ∀ p ∈ spl S k acc r, _
    obtain ⟨h1, h2⟩ := spl_len S k acc r
    refine ⟨by rw [List.length_cons]; omega, fun p hp => ?_⟩
    have := h2 p hp
    rw [List.length_cons]
    omega
theorem split_len {x y : Str} (hy : tl y ≠ []) (hk : y.cps.all (· < 256) = true) : (Txt.split x y).length ≤ x.length + 1 ∧ ∀ p ∈ Txt.split x y, p.length ≤ x.length := by
  have e := split_spl x y hy (kind_ok hk)
  obtain ⟨h1, h2⟩ := spl_len (tl y) 0 [] (tl x)
  rw [← e] at h1 h2
  rw [List.length_map] at h1
  refine ⟨by rw [len_tl x]; exact h1, fun p hp => ?_⟩
  have := h2 (tl p) (List.mem_map.mpr ⟨p, hp, rfl⟩)
  rw [List.length_nil, Nat.zero_add] at this
  rw [len_tl x, len_tl p]
  exact this
theorem sp1 : tl (" " : Str) ≠ [] ∧ (" " : Str).cps.all (· < 256) = true := ⟨by simp [show tl (" " : Str) = [32] from rfl], by decide +kernel⟩
theorem sp2 : tl ("; " : Str) ≠ [] ∧ ("; " : Str).cps.all (· < 256) = true := ⟨by simp [show tl ("; " : Str) = [59, 32] from rfl], by decide +kernel⟩
theorem pre_ge {x y : Str} : x.length ≤ (Txt.removeprefix x y).length + y.length := by
  rw [removeprefix_eq]
  split
  · rw [len_tl ⟨_⟩]
    show x.length ≤ ((x.cps.toList.drop y.length).take (x.length - y.length)).length + y.length
    rw [List.length_take, List.length_drop]
    have : x.cps.toList.length = x.length := (len_tl x).symm
    rw [this]
    omega
  · omega
theorem num_len {w : Str} (h : isNumB w = true) : w.length ≤ 6 := by
  unfold isNumB at h
  simp only [Bool.and_eq_true, decide_eq_true_eq] at h
  have := pre_ge (x := w) (y := ("-" : Str))
  have e : ("-" : Str).length = 1 := rfl
  rw [e] at this
  have := h.1.1.1
  omega
end Gm
/-! str(x) of an own class; e.replace(..) in a list that begins with a written text -/
namespace Gm
open PySem PySem.Spec PyProof.Rows L2
section
variable {X : Cx} {C f : Addr} {fd : FuncData} {ps : List Str} {CX : CXT} {k : Nat} {sp : Sp} {E : XK}
def rOwnStr (C : Addr) (sp : Sp) (E : XK) : List V → Hp → VK → Prop := fun xs H Q => ∃ a dx fs, xs = [.ref a] ∧ H a = some (.ins C dx fs) ∧ sp [.ref a] H (fun v HR => ∃ x : Str, v = .str x ∧ Q (.str x) HR) E
theorem call_ownStr (hs : PySem.W.findIn X.K (.ref C) "__str__" = some (some (.ref f))) (hf : PySem.W.isFn X.K (.ref f) = true) (F : FnOk X.prog X.w X.K X.mg X.base CX k f fd ps sp) (hr : Room (k + 2) X.A) (hb : Binds X.K fd ps [])
    (hx : ∀ (H : Hp) (s : Shared) (e : Value) (s' : Shared), CX X.stack H s E e s' → False) : CallR X (.type "str") (rOwnStr C sp E) := by
  intro pn s σ H vs argv Q I r h
  obtain ⟨a, dx, fs, rfl, ha, q⟩ := h
  cases r with
  | cons r rRest =>
    cases rRest
    cases r
    obtain ⟨od, J⟩ := inst_of I ha
    have hl := F.len _ _ _ _ q
    have rr : Room k X.A.in1.in1 := Room.in1 (Room.in1 hr)
    refine PySem.W.kso_call rr.units0 I.kIn J hs hf ?_
    have rv : Vals [V.ref a] [Value.ref a] := .cons rfl .nil
    refine wpAny_call (codeAny_mono (F.run X.A.in1.in1 X.stack s H ⟨[.ref a], []⟩ [.ref a] [.ref a] _ E rr I.env0.in1.in1 (by
      have := hb s [.ref a] I.kIn (by simpa using hl)
      simpa using this) rv q) fun r s' hq => ?_)
    cases r with
    | error e => exact (hx _ _ _ _ hq).elim
    | ok fl =>
      cases fl with
      | ret w =>
        obtain ⟨z, HR, IR, rz, x, ez, ex⟩ := I.after hq
        subst ez
        obtain ⟨t, rfl⟩ := rz
        exact ⟨.str x, HR, IR, ⟨t, rfl⟩, ex⟩
      | next => exact hq.elim
      | brk => exact hq.elim
      | cont => exact hq.elim
end
section
variable {X : Cx} {o e : Expr} {to te : TE} {apos pos : Pos}
def rJoin (K : PySem.W.Frag) : V → List V → Hp → VK → Prop := fun x xs H Q => ∃ a p, ∃ ys : List Str, x = .str a ∧ xs = [.ref p] ∧ SqL K H p (ys.map V.str) ∧ (ys.map (·.length)).sum + ys.length * a.length ≤ 16777216 ∧ Q (.str (Txt.join a ys)) H
theorem pe_joinK (K : PySem.W.Frag) (hK : X.K = K) (ho : PE X o to) (he : PE X e te) (hs : starEach [e] X.env = [(false, eval e X.env)] := by rfl) (hb : attributeBase o "join" X.env (eval o X.env) = eval o X.env := by rfl) (hl : (apos.endLine == pos.line) = true := by rfl) :
    PE X (.Call (.Attribute o "join" apos) [e] [] pos) (tM1 (rJoin K) to te) := by
  subst hK
  refine pe_m1 (r := rJoin X.K) F.slot_str_join F.type_str_join (fun pins s σ H x xs v us Q I rx rs h => ?_) ho he hs hb hl
  obtain ⟨a, p, ys, e1, e2, hp, hz, q⟩ := h
  exact mt_join pins s σ H x xs v us Q I rx rs ⟨a, p, ys, e1, e2, .inl hp, hz, q⟩
end
section
variable {X : Cx} {es : List Expr} {ta : TA} {x : Str} {j : Nat} {p : Pos}
/-- a written text first: behind it a token is out -/
theorem pa_strT (hr : PAT X es ta) (hs : starEach (.Constant (.str x) j p :: es) X.env = (false, eval (.Constant (.str x) j p) X.env) :: starEach es X.env := by rfl) : PA X (.Constant (.str x) j p :: es) (tCons (tC (.str x)) ta) := by
  refine ⟨fun pos pins s σ H Q I h => ?_⟩
  rw [hs]
  show wpAny _ _ (spliced ((false, eval (.Constant (.str x) j p) X.env) :: backTo pos (starEach es X.env))) _ _ s
  refine Calls.spliced_cons (Calls.Constant_str ?_)
  exact thn (hr pos pins { s with toks := s.toks + 1 } σ H _ (by show 1 ≤ s.toks + 1; omega) (I.tok _) h) fun us s2 ⟨xs, H2, J, r2, q2⟩ => ⟨.str x :: xs, H2, J, .cons ⟨_, rfl⟩ r2, q2⟩
theorem pat_of {e : Expr} {te : TE} (h : PE X e te) (hr : PAT X es ta) (hs : starEach (e :: es) X.env = (false, eval e X.env) :: starEach es X.env := by rfl) : PAT X (e :: es) (tCons te ta) := pat_cons (CwR.PET.of h) hr hs
end
theorem call_str_e {X : Cx} : CallR X (.type "str") (fun xs H Q => (∃ i, xs = [.int i] ∧ i.natAbs.log2 < 1920 ∧ Q (.str (numS i)) H) ∨ (∃ a, xs = [.str a] ∧ Q (.str a) H)) := by
  intro pins s σ H xs us Q I rs h
  rcases h with ⟨i, e, hl, q⟩ | ⟨a, e, q⟩
  · exact call_str_int pins s σ H xs us Q I rs ⟨i, e, hl, q⟩
  · exact SkE.call_str_str pins s σ H xs us Q I rs ⟨a, e, q⟩
end Gm
/-! A list comprehension whose element may raise. -/
namespace Gm
open PySem PySem.Spec PyProof.Rows L2

/-- the block's context, with a wish about exceptions -/
abbrev blkX (X : Cx) (s : Shared) (H : Hp) (scope : Scope) (cenv : Env) (fp : List Addr) (xe : Value → Shared → Prop) : Cx := { X.blk s H scope cenv fp with xe := xe }

theorem ok_xe {X : Cx} {xe : Value → Shared → Prop} (ok : X.Ok) : Cx.Ok { X with xe := xe } :=
  ⟨ok.mod, ok.kind, ok.glob, ok.blt, ok.above, ok.inj, ok.has, ok.cab, ok.hd, ok.frames, ok.stk, ok.exf, ok.bs, ok.bsz, ok.noex, ok.exfs, ok.funs, ok.frf⟩
theorem inv_xe {X : Cx} {xe : Value → Shared → Prop} {pins : List (Addr × Obj)} {σ : L2.St} {H : Hp} {s : Shared} (I : Inv X pins σ H s) : Inv { X with xe := xe } pins σ H s :=
  ⟨ok_xe I.ok, I.os, I.bare, I.base, I.loc, I.cell, I.free, I.freeC, I.pin, I.hok, I.len⟩

section
variable {X : Cx} {pins pins' : List (Addr × Obj)} {σ σ' : L2.St} {H3 H' : Hp} {s3 sI : Shared} {scope : Scope} {ce : Env} {fp : List Addr} {xe : Value → Shared → Prop}
/-- the def's own state again, without the block's names -/
theorem inv_back (I3 : Inv X pins σ H3 s3) (f3 : ∀ b ∈ fp, FpOk X pins H3 b ∧ b < s3.heap.objs.size) (Ib : Inv (blkX X s3 H3 scope ce fp xe) pins' σ' H' sI) (cL : ce.locals = s3.heap.objs.size) :
    Inv X pins σ H' { sI with heap := PySem.W.hideAll sI.heap [ce.locals] } := by
  have hne : ∀ b o, s3.heap.get? b = some o → b ∉ [ce.locals] := fun b o e hm => by
    rw [List.mem_singleton.mp hm, cL] at e
    exact absurd (Heap.lt_size e) (Nat.lt_irrefl _)
  have B := Ib.base
  refine I3.call' (ch := fp) Ib.os ⟨fun b o e n hb hx => PySem.W.hideAll_get _ (B.keep b o e n hb hx) (hne b o e), fun b o e n hb hx => ?_, B.free, fun b o e hx => ?_, B.tups, B.frzs, B.tbls⟩ ?_ Ib.bare
    fun b hb => ⟨(f3 b hb).1.2.2.2.1, (f3 b hb).1.2.1, (f3 b hb).1.2.2.2.2.1, (f3 b hb).1.2.2.2.2.2⟩
  · obtain ⟨sl, q⟩ := B.slot b o e n hb hx
    exact ⟨sl, PySem.W.hideAll_get _ q (hne b o e)⟩
  · obtain ⟨o', q⟩ := B.there b o e hx
    exact ⟨o', PySem.W.hideAll_get _ q (hne b o e)⟩
  · have z : H' ce.locals = none := Ib.free
    exact fun b o q => (Ib.hok b o q).stay (fun c u hc r => PySem.W.hideAll_get _ r fun hm => by
      rw [List.mem_singleton.mp hm] at hc
      rcases hc with hc | hc
      · rw [hc, q] at z; cases z
      · rw [hc] at z; cases z) (fun _ r => r) fun _ _ r => r

/-- an exception out of a call in the block passes on to the def -/
theorem passes_blk {W : WX} {E : XK} {K : Value → Shared → Prop} (hst : X.stack = X.env :: X.outer) (hfr : X.env.frame = some X.env.locals) (tk : L2.Takes X W) (hW : ∀ cls d σ H, E cls d H → W cls d σ H)
    (I3 : Inv X pins σ H3 s3) (f3 : ∀ b ∈ fp, FpOk X pins H3 b ∧ b < s3.heap.objs.size) (cL : ce.locals = s3.heap.objs.size) (cF : ce.frame = X.env.frame)
    (hK : ∀ e s', CompFails (model X.prog X.w) X.A X.xe ce e s' → K e s') :
    ∀ (pins' : List (Addr × Obj)) (σ' : L2.St) (H : Hp) (s : Shared) (e : Value) (s' : Shared), Inv (blkX X s3 H3 scope ce fp xe) pins' σ' H s → L2.CX X.prog X.w X.stack H s E e s' → notedBy (model X.prog X.w) X.A ce K e s' := by
  rintro pins' σ' H s e s' Ib ⟨a, B, H2, cls, d, rfl, fl, hok, ub, na, os, ag, hE⟩
  obtain ⟨G, g1, g2⟩ := restrict s'.heap fun b => (B.get? b).isSome || decide (b ∈ frs X.stack)
  have st : B.StaysIn s'.heap := fl.1
  have gB : ∀ b o, B.get? b = some o → G.get? b = some o := fun b o e => by
    rw [g1 b (by simp [e])]
    exact st b o e
  have gF : ∀ b, b ∈ frs X.stack → G.get? b = s'.heap.get? b := fun b hb => g1 b (by simp [hb])
  have og : ∀ b o, G.get? b = some o → s'.heap.get? b = some o ∧ ((B.get? b).isSome = true ∨ b ∈ frs X.stack) := fun b o e => by
    cases q : ((B.get? b).isSome || decide (b ∈ frs X.stack)) with
    | false => rw [g2 b q] at e; cases e
    | true =>
      rw [g1 b q] at e
      exact ⟨e, by simpa [Bool.or_eq_true] using q⟩
  have IG : Inv (blkX X s3 H3 scope ce fp xe) pins' σ' H2 { s with heap := G, gens := s'.gens, drawn := s'.drawn, toks := s'.toks } := by
    refine Ib.call (ch := []) ⟨fun b o e n hb _ => gB b o (ub.keep b o e n hb), fun b o e n hb _ => ?_, fun b o e n _ => ub.free b o e n, fun b o e _ => ?_, ub.tups, ub.frzs, ub.tbls⟩ (hok.kept gB) ag (fun _ z => nomatch z)
    · obtain ⟨sl, q⟩ := ub.slot b o e hb
      exact ⟨sl, by rw [gF b hb]; exact q⟩
    · by_cases hb : b ∈ frs X.stack
      · obtain ⟨sl, q⟩ := ub.slot b o e hb
        exact ⟨_, by rw [gF b hb]; exact q⟩
      · obtain ⟨o', q⟩ := ub.there b o e hb
        exact ⟨o', gB b o' q⟩
  have IX := inv_back I3 f3 IG cL
  have hfr' : X.A.frames = some (X.env :: X.outer) := by rw [I3.ok.frames, hst]
  -- the ground without the block's names
  have fl' : HandSPX.FlyingZ (PySem.W.hideAll B [ce.locals]) X.stack a (Zc cls d) s'.heap := by
    obtain ⟨f1, f2, f5, oe, vs, T, oT, ts, he, hz, hd, h1, hnT, r⟩ := fl
    have no : ∀ b, B.get? b = none → (PySem.W.hideAll B [ce.locals]).get? b = none := fun b hb => by
      cases q : (PySem.W.hideAll B [ce.locals]).get? b with
      | none => rfl
      | some o =>
        have z := PySem.W.of_hideAll _ q
        rw [hb] at z; cases z
    exact ⟨fun b o e => f1 b o (PySem.W.of_hideAll _ e), no _ f2, funFrames_none f5 fun L hL => no _ (f5.mem hL).1, oe, vs, T, oT, ts, he, hz, hd, h1, no _ hnT, r⟩
  have hbC : (PySem.W.hideAll B [ce.locals]).get? ce.locals = none := PySem.W.hideAll_none _ (List.mem_singleton.mpr rfl)
  obtain ⟨m, hnG, _⟩ := IG.loc
  have hn0 : s'.heap.Ns ce.locals m := Heap.Ns.keeps hnG fun b o e => (og b o e).1
  show wpAny _ _ (noteFrame (.ref a) ce) _ _ s'
  rw [noteFrame_env _ cF]
  rw [hst] at fl'
  refine HandSPX.looks_onZ Zc.steady hfr' hfr fl' fun h1 hh up => hK _ _ ?_
  refine ⟨m, hn0.upToSlots up, fun h2 m2 hn2 sb => ?_⟩
  have hn1 : h1.Ns ce.locals m := hn0.upToSlots up
  obtain ⟨b1, b0, f1, t1⟩ := hh
  have b2 : (PySem.W.hideAll B [ce.locals]).StaysIn h2 := fun b o hb => (sb.2 b fun q => by rw [q, hbC] at hb; cases hb).trans (b1 b o hb)
  have f2 : h2.FunFrames (PySem.W.hideAll B [ce.locals]) (X.env :: X.outer) := Heap.FunFrames.sameBut sb hn2 f1
  obtain ⟨oe, vs, T, oT, ts, he, hz, hd, hv1, hnT, hTe, hT, hdT, h3⟩ := t1
  obtain ⟨oL, es, ep, hoL, hdL, _⟩ := hn1
  have neE : a ≠ ce.locals := fun q => by rw [q, hoL] at he; cases he; rw [hd] at hdL; cases hdL
  have neT : T ≠ ce.locals := fun q => by rw [q, hoL] at hT; cases hT; rw [hdT] at hdL; cases hdL
  have t2 : HandSPX.TracedZ h2 (PySem.W.hideAll B [ce.locals]) a (Zc cls d) (rawInt X.env.locals) := ⟨oe, vs, T, oT, ts, (sb.2 a neE).trans he, hz, hd, hv1, hnT, hTe, (sb.2 T neT).trans hT, hdT, h3⟩
  unfold PySem.passOn
  refine wpAny_bind (wpAny_field (s := { s' with heap := h2 }) ((sb.2 a neE).trans he) hd hv1 ?_)
  rw [if_neg (show ¬ ((Value.ref T == Value.none) = true) from by simp)]
  rw [cF, hfr]
  refine wpAny_bind (HandSPX.setFlight_onZ (s := { s' with heap := h2 }) (l := X.env :: X.outer) ⟨b2, b0, f2, t2⟩ fun h3' hh3 up3 => ?_)
  refine wpAny_throw ?_
  refine tk (.ref a) _ ⟨a, PySem.W.hideAll B [ce.locals], _, pins, σ, H2, cls, d, rfl, IX, fun b o e hb => ?_, fun b o e hnf => ?_, .inr (.inr (by rw [hst]; exact hh3)), na, os, ag, hW _ _ _ _ hE⟩
  · have e' := PySem.W.of_hideAll _ e
    have bC : b ∉ [ce.locals] := fun hm => by
      rw [PySem.W.hideAll_none _ hm] at e; cases e
    obtain ⟨e1, hh⟩ := og b o e'
    rcases hh with hh | hh
    · obtain ⟨o', q⟩ := Option.isSome_iff_exists.mp hh
      have z := st b o' q
      rw [e1] at z; cases z
      exact PySem.W.hideAll_get _ q bC
    · exact absurd hh hb
  · have e' := PySem.W.of_hideAll _ e
    have bC : b ≠ ce.locals := fun hm => by
      rw [hm, PySem.W.hideAll_none _ (List.mem_singleton.mpr rfl)] at e; cases e
    obtain ⟨e1, _⟩ := og b o e'
    obtain ⟨sl, e2⟩ := up b o e1 hnf
    obtain ⟨sl3, e3⟩ := up3 b _ ((sb.2 b bC).trans e2) hnf
    exact ⟨sl3, e3⟩
end

section
variable {X : Cx}
/-- what the parts of a comprehension's block are to be, where its element's calls may raise E -/
abbrev BlkP (X : Cx) (scope : Scope) (E : XK) (P : Cx → Prop) : Prop := ∀ (s : Shared) (H : Hp) (C : Addr) (cl : List (Str × Addr)) (fp : List Addr) (xe : Value → Shared → Prop),
  (∀ (pins : List (Addr × Obj)) (σ : L2.St) (H' : Hp) (s' : Shared) (e : Value) (s'' : Shared), Inv (blkX X s H scope (compEnvC scope cl C X.env) fp xe) pins σ H' s' → L2.CX X.prog X.w X.stack H' s' E e s'' → xe e s'') →
  P (blkX X s H scope (compEnvC scope cl C X.env) fp xe)

theorem lc_coreX {pins : List (Addr × Obj)} {s : Shared} {σ : L2.St} {H : Hp} {Q : VK} {elt tg iter : Expr} {ifs : List Expr} {scope : Scope} {own : List (Str × Nat)} {pos pos' : Pos} {wi : TI} {g : TG} {tt : TT} {te : TE} {use : Option (Value → Sem Unit)} {Qf : Value → Shared → Prop}
    {W0 : WX} {E : XK} (hst : X.stack = X.env :: X.outer) (hfr : X.env.frame = some X.env.locals) (tk : L2.Takes X W0) (hW : ∀ cls d σ H, E cls d H → W0 cls d σ H)
    (hc : X.calm = true) (hN : X.N.Nodup) (I : Inv X pins σ H s) (hi : PI X tg iter wi) (ok : BlkOk X.N X.env.scope scope own)
    (hg : BlkP X scope E fun X' => PG X' tg g) (ht : BlkP X scope E fun X' => PTs X' ifs tt) (he : BlkP X scope E fun X' => PE X' elt te) (hs : ∀ x, foldedSetIterable iter X.env x = pure x)
    (h : tLc wi g tt te (own.map (·.2)) σ H Q)
    (hRR : ∀ D C s' m H', Inv X pins σ H' s' → Q (.ref D) H' → s'.heap.Ns C m → FpOk X pins H' C → compPost (model X.prog X.w) X.A X.xe use Qf (.ref D) C (.ok .next) s') :
    wpAny (model X.prog X.w) X.A (comprehension (.ListComp elt [⟨tg, iter, ifs, 0⟩] scope pos) scope X.env pos' (newList []) false (eval iter X.env) use) Qf X.xe s := by
  have hfree : ∀ y ∈ scope.names, y.2 = .free → ∃ c, X.env.cells.lookup y.1 = some c := fun y hy e => by
    rcases ok.free y hy e with k | k
    · exact I.ok.has _ (.inl k)
    · exact I.ok.has _ (.inr k)
  refine comprehension_at (use := use) rfl hs (closure_ok hfree) ok.kind (fun y hy e => by rw [ok.uniq y hy, e])
    (thn (hi.run pins s σ H _ I h) fun xv s1 hx => thn hx fun itv s2 h2 => ?_)
  obtain ⟨it, fp, tn, J, H2, e, I2, T, st2, f2, q⟩ := h2
  subst e
  refine wpAny_newObj_type (newEnv_comp ?_) (by show 0 ≤ sizeLine; decide)
  generalize hD : s2.heap.objs.size = D
  have hDn : H2 D = none := I2.hok.fresh (Nat.le_of_eq hD)
  obtain ⟨W, ⟨m0, w0⟩, turn⟩ := q D hDn
  generalize hs3 : ({ s2 with heap := s2.heap.push { cls := .type "list", data := .seq ([] : List Value).toArray } } : Shared) = s3
  have I3 : Inv X pins σ (upd H2 D (.lst [])) s3 := by
    rw [← hs3]
    refine I2.laid (t' := s2.toks) (fun b o e => Heap.get?_push_of_some _ e) (Nat.le_of_eq hD) ⟨Nat.zero_le _, [], 0, .nil, ?_⟩
    rw [← hD]
    exact Heap.get?_push_size _ rfl
  have h3 : s3.heap = s2.heap.push { cls := .type "list", data := .seq ([] : List Value).toArray } := by rw [← hs3]
  have sz : ∀ b ∈ fp, b < s2.heap.objs.size := fun b hb => by
    obtain ⟨o, e, _⟩ := T.obj _ _ st2 b hb
    exact Heap.lt_size e
  have f3 : ∀ b ∈ fp, FpOk X pins (upd H2 D (.lst [])) b ∧ b < s3.heap.objs.size := fun b hb => by
    have hlt := sz b hb
    refine ⟨⟨?_, (f2 b hb).2⟩, by rw [h3, Heap.size_push]; exact Nat.lt_succ_of_lt hlt⟩
    rw [upd_ne (by rw [← hD]; exact Nat.ne_of_lt hlt)]
    exact (f2 b hb).1
  have st3 : tn 0 s3.heap := T.keep _ _ _ st2 fun b _ o e => by rw [h3]; exact Heap.get?_push_of_some _ e
  have I4 := block_start I3 ok hN f3
  have pg := hg s3 (upd H2 D (.lst [])) s3.heap.objs.size (cellsFrom (s3.heap.objs.size + 1) scope.names (cloFrom X.env.cells scope.names [])) fp
  have pt := ht s3 (upd H2 D (.lst [])) s3.heap.objs.size (cellsFrom (s3.heap.objs.size + 1) scope.names (cloFrom X.env.cells scope.names [])) fp
  have pe := he s3 (upd H2 D (.lst [])) s3.heap.objs.size (cellsFrom (s3.heap.objs.size + 1) scope.names (cloFrom X.env.cells scope.names [])) fp
  show codeAny _ _ (.compStart (.ListComp elt [⟨tg, iter, ifs, 0⟩] scope pos) 0 (.ref it) (.ref D) (compEnvC scope (cellsFrom (s3.heap.objs.size + 1) scope.names (cloFrom X.env.cells scope.names [])) s3.heap.objs.size X.env)) (compEnds (model X.prog X.w) X.A X.xe use Qf (.ref D) (compEnvC scope (cellsFrom (s3.heap.objs.size + 1) scope.names (cloFrom X.env.cells scope.names [])) s3.heap.objs.size X.env)) { s3 with heap := pushCells (s3.heap.push { cls := .type "dict", data := .dict #[] }) scope.names }
  have nfp : ∀ b ∈ fp, (upd H2 D (.lst [])) b = none := fun b hb => (f3 b hb).1.1
  generalize hce : compEnvC scope (cellsFrom (s3.heap.objs.size + 1) scope.names (cloFrom X.env.cells scope.names [])) s3.heap.objs.size X.env = ce at I4 pg pt pe ⊢
  have cL : ce.locals = s3.heap.objs.size := by subst hce; rfl
  have cF : ce.frame = X.env.frame := by subst hce; rfl
  generalize hH3 : upd H2 D (.lst []) = H3 at I3 I4 pg pt pe w0 nfp f3
  generalize hs4 : ({ s3 with heap := pushCells (s3.heap.push { cls := .type "dict", data := .dict #[] }) scope.names } : Shared) = s4 at I4 ⊢
  have st4 : tn 0 s4.heap := T.keep _ _ _ st3 fun b _ o e => by rw [← hs4]; exact pushCells_keeps _ _ _ _ (Heap.get?_push_of_some _ e)
  -- the block's end
  generalize hR : (fun (r : Result) (s' : Shared) => (r = .ok .next ∧ compPost (model X.prog X.w) X.A X.xe use Qf (.ref D) s3.heap.objs.size (.ok .next) s') ∨ ∃ x, r = .error x ∧ CompFails (model X.prog X.w) X.A X.xe ce x s') = R
  have hRi : ∀ r s', R r s' → compEnds (model X.prog X.w) X.A X.xe use Qf (.ref D) ce r s' := fun r s' hr => by
    subst hR
    rcases hr with ⟨rfl, hr⟩ | ⟨x, rfl, hr⟩
    · rw [← cL] at hr
      cases use <;> exact hr
    · cases use <;> exact hr
  refine codeAny_mono ?_ hRi
  generalize hxe : notedBy (model X.prog X.w) X.A ce (fun e s' => R (.error e) s') = xe
  have pass : ∀ (pins' : List (Addr × Obj)) (σ' : L2.St) (H : Hp) (s : Shared) (e : Value) (s' : Shared), Inv (blkX X s3 H3 scope ce fp xe) pins' σ' H s → L2.CX X.prog X.w X.stack H s E e s' → xe e s' := by
    have z := passes_blk (scope := scope) (xe := xe) hst hfr tk hW I3 f3 cL cF (K := fun e s' => R (.error e) s') fun e s' hh => by rw [← hR]; exact .inr ⟨e, rfl, hh⟩
    rw [hxe] at z
    exact z
  have I4 := inv_xe (xe := xe) I4
  have pg := pg xe pass
  have pt := pt xe pass
  have pe := pe xe pass
  have stat : ∀ {σ' : L2.St} {H' : Hp} {s' : Shared}, Inv (blkX X s3 H3 scope ce fp xe) [] σ' H' s' → (∀ b ∈ fp, H' b = none) → ∀ b ∈ fp, FpOk (blkX X s3 H3 scope ce fp xe) [] H' b := fun {σ' H' s'} I' hn b hb =>
    ⟨hn b hb, (I'.ok.exf b hb).1, I'.ok.exfs b hb, .inl hb, fun x c e => (I'.ok.exf b hb).2 x c e, fun p hp => absurd (show p ∈ ([] : List (Addr × Obj)) ++ [] from hp) (by simp)⟩
  have loop : codeAny (model X.prog X.w) X.A (.compLoop (.ListComp elt [⟨tg, iter, ifs, 0⟩] scope pos) 0 (.ref it) (.ref D) ce) R s4 := by
    refine compLoop_any (fun n s' => ∃ i H', Inv (blkX X s3 H3 scope ce fp xe) [] (wipe σ (own.map (·.2))) H' s' ∧ tn i s'.heap ∧ (∀ b ∈ fp, H' b = none) ∧ W i n H') ?_ m0 ⟨0, H3, I4, st4, nfp, w0⟩
    rintro n s5 ⟨i, H5, I5, st5, n5, w5⟩
    rw [hxe]
    rcases turn i n H5 w5 with ⟨stop, qq⟩ | ⟨go, Nx, hNx, step⟩
    · have td := T.done (blkX X s3 H3 scope ce fp xe) rfl rfl rfl hc i [] s5 _ H5 (fun _ _ => False) I5 (stat I5 n5) st5 stop
      refine thnF td fun r s6 ⟨hr, I6⟩ => ?_
      subst hr
      have I7 : Inv X pins σ H5 s6 := I3.call' (ch := fp) I6.os I6.base I6.hok I6.bare fun b hb => ⟨(f3 b hb).1.2.2.2.1, (f3 b hb).1.2.1, (f3 b hb).1.2.2.2.2.1, (f3 b hb).1.2.2.2.2.2⟩
      have nC : H5 s3.heap.objs.size = none := by
        have z : H5 ce.locals = none := I6.free
        rw [cL] at z
        exact z
      obtain ⟨m, hn, _⟩ := I6.loc
      have hn : s6.heap.Ns ce.locals m := hn
      rw [cL] at hn
      show R (.ok .next) s6
      rw [← hR]
      exact .inl ⟨rfl, hRR D s3.heap.objs.size s6 m H5 I7 qq hn (I3.fpOk (Nat.le_refl _) nC)⟩
    · have ti := T.item (blkX X s3 H3 scope ce fp xe) rfl rfl rfl hc i [] s5 _ H5 (fun _ _ => False) I5 (stat I5 n5) st5 go
      refine thnF ti fun r s6 ⟨u, hr, h6⟩ => ?_
      subst hr
      refine thnF h6 fun _ s7 ⟨x, H7, I7, r7, y7, st7, n7⟩ => ?_
      have I7' := I7.pinned (stat I7 n7) (T.obj _ _ st7)
      refine thn (pg.run _ s7 _ H7 x u _ I7' r7 (step x H7 y7)) fun _ s8 ⟨σ8, H8, I8, hw8, q8⟩ => ?_
      refine thn (pt.run _ s8 σ8 H8 _ I8 q8) fun b s9 ⟨H9, I9, q9⟩ => ?_
      have fin : ∀ {s' : Shared} {H' : Hp}, Inv (blkX X s3 H3 scope ce fp xe) ([] ++ pinsAt fp s7.heap) σ8 H' s' → Nx H' → ∃ m, m < n ∧ ∃ i H', Inv (blkX X s3 H3 scope ce fp xe) [] (wipe σ (own.map (·.2))) H' s' ∧ tn i s'.heap ∧ (∀ b ∈ fp, H' b = none) ∧ W i m H' := fun {s' H'} I' nx => by
        obtain ⟨m', hm, w'⟩ := hNx H' nx
        have pin' : ∀ b ∈ fp, ∀ o, s7.heap.get? b = some o → s'.heap.get? b = some o ∧ H' b = none := fun b hb o e =>
          let z := I'.pin (b, o) (List.mem_append_right _ (List.mem_append_right _ (mem_pinsAt hb e)))
          ⟨z.1, z.2.1⟩
        have hl : (wipe σ (own.map (·.2))).length = σ8.length := by rw [← hw8, wipe_length]
        refine ⟨m', hm, i + 1, H', (I'.unpinned (pins := [])).weak hl (fun j v e => ?_), T.keep _ _ _ st7 fun b hb o e => (pin' b hb o e).1, fun b hb => ?_, w'⟩
        · rw [← hw8] at e
          exact (wipe_some e).1
        · obtain ⟨o, e, _⟩ := T.obj _ _ st7 b hb
          exact (pin' b hb o e).2
      cases b with
      | false =>
        simp only [Bool.false_eq_true, if_false] at q9 ⊢
        exact fin I9 q9
      | true =>
        simp only [if_true] at q9 ⊢
        refine thn (pe.run _ s9 σ8 H9 _ I9 q9) fun z s10 ⟨yv, H10, I10, r10, acc, hD10, hz10, nx⟩ => ?_
        exact app_ok (X := blkX X s3 H3 scope ce fp xe) I10 hD10 hz10 r10 fun s11 I11 => fin I11 nx
  exact codeAny_compStart_list loop (T.self X.A 0 _ _ _ st4 loop)

/-- as a value, its element's calls may raise -/
theorem pe_lcX {elt tg iter : Expr} {ifs : List Expr} {scope : Scope} {own : List (Str × Nat)} {pos : Pos} {wi : TI} {g : TG} {tt : TT} {te : TE} {W0 : WX} {E : XK}
    (hst : X.stack = X.env :: X.outer) (hfr : X.env.frame = some X.env.locals) (tk : L2.Takes X W0) (hW : ∀ cls d σ H, E cls d H → W0 cls d σ H)
    (hc : X.calm = true) (hN : X.N.Nodup) (hi : PI X tg iter wi) (ok : BlkOk X.N X.env.scope scope own)
    (hg : BlkP X scope E fun X' => PG X' tg g) (ht : BlkP X scope E fun X' => PTs X' ifs tt) (he : BlkP X scope E fun X' => PE X' elt te) (hs : ∀ x, foldedSetIterable iter X.env x = pure x := by intro _; rfl) :
    PE X (.ListComp elt [⟨tg, iter, ifs, 0⟩] scope pos) (tLc wi g tt te (own.map (·.2))) := by
  refine ⟨fun pins s σ H Q I h => ?_⟩
  rw [eval_ListComp]
  refine lc_coreX hst hfr tk hW hc hN I hi ok hg ht he hs h fun D C s' m H' I' q hn f => ⟨m, hn, fun h'' sb => ?_⟩
  obtain ⟨f0, f1, f2, f3, f4, f5⟩ := f
  exact ⟨.ref D, H', I'.turned (t' := s'.toks) (fun b o hb e => (sb.2 b hb).trans e) f0 f1 f3 f4 f5, rfl, q⟩
end
end Gm
/-! != of tuples whose items are compared by an own __eq__ -/
namespace GQ
open PySem PySem.SeqAt
open AutoSeq1 (wpAny_loadPart')
open MeetsSeq MeetsSeq2 MeetsSeq3 SeqRoads2
section
variable {prog : Program} {w : World} {A : Around} {R : Result → Shared → Prop}
theorem tuple_neG (l b : Addr) (items items2 : Array Value) (n n2 : Nat) (dd dd2 : Option Addr) (sl sl2 : Array (Option Value)) (hsz : items.size = items2.size) (I : Nat → Shared → Prop)
    (turn : ∀ i (h1 : i < items.size) (h2 : i < items2.size) s, I i s → wpAny (model prog w) A.in1 (eqBool items[i] items2[i]) (fun r s' => r = true ∧ I (i + 1) s') (fun e s' => R (.error e) s') s)
    (fin : ∀ s, I items.size s → R (.ok (.ret (.bool false))) s) {s : Shared} (hl1 : s.heap.get? l = some { cls := .type "tuple", dict := dd, data := .seq items n, slots := sl }) (hb1 : s.heap.get? b = some { cls := .type "tuple", dict := dd2, data := .seq items2 n2, slots := sl2 }) (h : I 0 s) :
    wpAny (model prog w) A.in1 (Builtin.«tuple.__ne__» ⟨[.ref l, .ref b], []⟩) (FinOf prog w A R) (fun e s' => R (.error e) s') s := by
  have f2 := AutoSeq1.sub_tuple_tuple
  have hZ : (items.toList.zip items2.toList).length = items.size := by simp [hsz]
  have h0 := h
  obtain ⟨hp, g, d, tk, os⟩ := s
  wp_walk using wpAny_loadPart' hl1, wpAny_loadPart' hb1, wpAny_forIn_list _ (fun rest b s' => b.1 = none ∧ ∃ i, rest = (items.toList.zip items2.toList).drop i ∧ i ≤ items.size ∧ I i s') _
  case turn =>
    rintro ⟨y, x⟩ rest b s' ⟨hb', i, hz, hi, hI⟩
    have hlt : i < (items.toList.zip items2.toList).length := by
      rcases Nat.lt_or_ge i (items.toList.zip items2.toList).length with h' | h'
      · exact h'
      · rw [List.drop_of_length_le h'] at hz; cases hz
    have h1 : i < items.size := hZ ▸ hlt
    have h2 : i < items2.size := hsz ▸ h1
    rw [List.drop_eq_getElem_cons hlt] at hz
    injection hz with hyx hrest
    have hy : y = items[i] := by have := congrArg Prod.fst hyx; simpa using this
    have hx : x = items2[i] := by have := congrArg Prod.snd hyx; simpa using this
    subst hy hx
    refine wpAny_bind (wpAny_mono (turn i h1 h2 s' hI) (fun r s2 q2 => ?_) fun _ _ x => x)
    obtain ⟨hr, q2⟩ := q2
    subst hr
    wp_walk
    exact ⟨rfl, i + 1, hrest, h1, q2⟩
  case fin =>
    rintro ⟨b1, b2⟩ s' ⟨hb', i, hz, hi, hI⟩
    simp only at hb'
    subst hb'
    have hge : items.size ≤ i := by
      rcases Nat.lt_or_ge i (items.toList.zip items2.toList).length with h' | h'
      · rw [List.drop_eq_getElem_cons h'] at hz; cases hz
      · exact hZ ▸ h'
    have hi' : i = items.size := by omega
    have hR : R (.ok (.ret (.bool false))) s' := fin s' (hi' ▸ hI)
    wp_walk
    simpa [Builtin.Tuple.tupleCompareSizes, hsz] using hR
  case h =>
    exact ⟨rfl, 0, rfl, Nat.zero_le _, h0⟩
end
section
variable {prog : Program} {w : World} {A : Around} {E : Value → Shared → Prop} {s : Shared}
theorem rcNe_tupG {l b : Addr} {items items2 : Array Value} {Q : Value → Shared → Prop} (hsz : items.size = items2.size) (hu : A.units < cLine) (I : Nat → Shared → Prop)
    (hl : s.heap.IsTuple l items) (hb : s.heap.IsTuple b items2)
    (turn : ∀ i (h1 : i < items.size) (h2 : i < items2.size) s, I i s → wpAny (model prog w) A.in1 (eqBool items[i] items2[i]) (fun r s' => r = true ∧ I (i + 1) s') E s)
    (fin : ∀ s, I items.size s → Q (.bool false) s) (h : I 0 s) : wpAny (model prog w) A (richCompare .NotEq (.ref l) (.ref b)) Q E s := by
  obtain ⟨⟨cls, dd, data, sl⟩, ho, hc, n, hd⟩ := id hl
  obtain ⟨⟨cls2, dd2, data2, sl2⟩, ho2, hc2, n2, hd2⟩ := id hb
  simp only at hc hd hc2 hd2
  subst hc hd hc2 hd2
  refine wpAny_richCompare_same_room (op := .NotEq) ⟨_, ho, rfl⟩ ⟨_, ho2, rfl⟩ F.slot_tuple_ne (call_here F.slot_tuple_ne ⟨_, ho, rfl⟩ F.entry_tuple_ne (F.args_tuple_ne_2 _ _) ?_) hu
  exact tuple_neG (R := wants (fun v s' => v ≠ .notImplemented ∧ Q v s') E) l b items items2 n n2 dd dd2 sl sl2 hsz I turn (fun s' q => ⟨(fun x => nomatch x), fin s' q⟩) ho ho2 h
end
end GQ
namespace L2
open PySem PySem.Spec PyProof.Rows
section
variable {X : Cx} {n : Nat} {D : Eqv}
/-- x != y of two tuples of equal items -/
theorem op_neTG (hD : Mon D) (h : EqG X n D) (hr : Room (n + 1) X.A) : OpR X (compareOp .NotEq) (fun x y H Q => DTup X.K D x y H ∧ ∀ H', Ext H H' → Q (.bl false) H') := by
  intro pins s σ H x y v u Q I rx ry hq
  obtain ⟨⟨a, b, xs, ys, rfl, rfl, ha, hb, p⟩, q⟩ := hq
  cases rx
  cases ry
  obtain ⟨its, r, e, z⟩ := I.tuple ha
  obtain ⟨its2, r2, e2, z2⟩ := I.tuple hb
  have hsz : its.toArray.size = its2.toArray.size := by rw [List.size_toArray, List.size_toArray, ← r.length, ← r2.length]; exact p.1
  show wpAny (model X.prog X.w) X.A (richCompare .NotEq (.ref a) (.ref b)) (EP X pins σ Q) X.xe s
  exact GQ.rcNe_tupG hsz hr.units0 (fun _ s' => LoopI X pins σ H s') e e2 (fun i h1 h2 s' q => turnG hD h ⟨hr, rfl⟩ p r r2 i h1 h2 s' q)
    (fun s' ⟨H', I', e⟩ => ⟨.bl false, H', I', rfl, q H' e⟩) ⟨H, I, Ext.rfl'⟩
end
end L2
namespace K50
open PySem PySem.Spec PyProof.Rows L2 Gm
def topS (i : Nat) : Stmt := PySem.Challenge.pw_gridmetric_k50_lines_read.main.body.getD i (.Pass ⟨0, 0, 0, 0⟩)
abbrev s_Refused_init : Stmt := inClass (topS 4) 0
theorem sc_Refused_init : FnScope ["self", "reason"] ["self", "reason"] (defScope s_Refused_init) := ⟨rfl, rfl, rfl, by decide +kernel, rfl, by decide +kernel, by decide +kernel⟩
abbrev s_NoText_init : Stmt := inClass (topS 5) 0
theorem sc_NoText_init : FnScope ["self", "at"] ["self", "at"] (defScope s_NoText_init) := ⟨rfl, rfl, rfl, by decide +kernel, rfl, by decide +kernel, by decide +kernel⟩
abbrev s_is_integer : Stmt := topS 7
theorem sc_is_integer : FnScope ["value"] ["value"] (defScope s_is_integer) := ⟨rfl, rfl, rfl, by decide +kernel, rfl, by decide +kernel, by decide +kernel⟩
abbrev s_determinant_of : Stmt := topS 18
theorem sc_determinant_of : FnScope ["rows", "sign", "last", "at", "top", "k", "row"] ["rows"] (defScope s_determinant_of) := ⟨rfl, rfl, rfl, by decide +kernel, rfl, by decide +kernel, by decide +kernel⟩
abbrev s_first_with_head : Stmt := topS 19
theorem sc_first_with_head : FnScope ["rows", "k", "row"] ["rows"] (defScope s_first_with_head) := ⟨rfl, rfl, rfl, by decide +kernel, rfl, by decide +kernel, by decide +kernel⟩
abbrev s_cleared : Stmt := topS 20
theorem sc_cleared : FnScope ["top", "row", "last", "k"] ["top", "row", "last"] (defScope s_cleared) := ⟨rfl, rfl, rfl, by decide +kernel, rfl, by decide +kernel, by decide +kernel⟩
abbrev s_Grid_init : Stmt := inClass (topS 22) 0
theorem sc_Grid_init : FnScope ["self", "rows", "width"] ["self", "rows", "width"] (defScope s_Grid_init) := ⟨rfl, rfl, rfl, by decide +kernel, rfl, by decide +kernel, by decide +kernel⟩
abbrev s_Grid_eq : Stmt := inClass (topS 22) 1
theorem sc_Grid_eq : FnScope ["self", "other"] ["self", "other"] (defScope s_Grid_eq) := ⟨rfl, rfl, rfl, by decide +kernel, rfl, by decide +kernel, by decide +kernel⟩
abbrev s_Grid_transposed : Stmt := inClass (topS 22) 9
theorem sc_Grid_transposed : FnScope ["self", "places", "k", "row"] ["self"] (defScope s_Grid_transposed) := ⟨rfl, rfl, rfl, by decide +kernel, rfl, by decide +kernel, by decide +kernel⟩
abbrev s_checked_rows : Stmt := topS 23
theorem sc_checked_rows : FnScope ["rows", "row", "item"] ["rows"] (defScope s_checked_rows) := ⟨rfl, rfl, rfl, by decide +kernel, rfl, by decide +kernel, by decide +kernel⟩
abbrev s_checked_width : Stmt := topS 24
theorem sc_checked_width : FnScope ["rows", "width", "row"] ["rows", "width"] (defScope s_checked_width) := ⟨rfl, rfl, rfl, by decide +kernel, rfl, by decide +kernel, by decide +kernel⟩
abbrev s_is_word : Stmt := topS 30
theorem sc_is_word : FnScope ["value"] ["value"] (defScope s_is_word) := ⟨rfl, rfl, rfl, by decide +kernel, rfl, by decide +kernel, by decide +kernel⟩
abbrev s_is_number : Stmt := topS 31
theorem sc_is_number : FnScope ["word", "most", "digits"] ["word", "most"] (defScope s_is_number) := ⟨rfl, rfl, rfl, by decide +kernel, rfl, by decide +kernel, by decide +kernel⟩
abbrev s_Lattice_init : Stmt := inClass (topS 36) 0
theorem sc_Lattice_init : FnScope ["self", "gram"] ["self", "gram"] (defScope s_Lattice_init) := ⟨rfl, rfl, rfl, by decide +kernel, rfl, by decide +kernel, by decide +kernel⟩
abbrev s_Lattice_eq : Stmt := inClass (topS 36) 1
theorem sc_Lattice_eq : FnScope ["self", "other"] ["self", "other"] (defScope s_Lattice_eq) := ⟨rfl, rfl, rfl, by decide +kernel, rfl, by decide +kernel, by decide +kernel⟩
abbrev s_Lattice_str : Stmt := inClass (topS 36) 2
theorem sc_Lattice_str : FnScope ["self", "row", "item"] ["self"] (defScope s_Lattice_str) := ⟨rfl, rfl, rfl, by decide +kernel, rfl, by decide +kernel, by decide +kernel⟩
abbrev s_checked_gram : Stmt := topS 37
theorem sc_checked_gram : FnScope ["gram", "rows", "grid", "row", "item"] ["gram"] (defScope s_checked_gram) := ⟨rfl, rfl, rfl, by decide +kernel, rfl, by decide +kernel, by decide +kernel⟩
abbrev s_is_positive : Stmt := topS 38
theorem sc_is_positive : FnScope ["rows", "sizes", "k", "row"] ["rows"] (defScope s_is_positive) := ⟨rfl, rfl, rfl, by decide +kernel, rfl, by decide +kernel, by decide +kernel⟩
abbrev s_read_lattice : Stmt := topS 40
theorem sc_read_lattice : FnScope ["text", "rows", "numbers", "row", "word"] ["text"] (defScope s_read_lattice) := ⟨rfl, rfl, rfl, by decide +kernel, rfl, by decide +kernel, by decide +kernel⟩
abbrev s_is_name : Stmt := topS 48
theorem sc_is_name : FnScope ["value"] ["value"] (defScope s_is_name) := ⟨rfl, rfl, rfl, by decide +kernel, rfl, by decide +kernel, by decide +kernel⟩
abbrev s_read_line : Stmt := topS 49
theorem sc_read_line : FnScope ["line", "words"] ["line"] (defScope s_read_line) := ⟨rfl, rfl, rfl, by decide +kernel, rfl, by decide +kernel, by decide +kernel⟩
abbrev s_is_line : Stmt := topS 50
theorem sc_is_line : FnScope ["value", "sign"] ["value"] (defScope s_is_line) := ⟨rfl, rfl, rfl, by decide +kernel, rfl, by decide +kernel, by decide +kernel⟩
abbrev s_read_let : Stmt := topS 51
theorem sc_read_let : FnScope ["line", "head", "_", "text", "words"] ["line"] (defScope s_read_let) := ⟨rfl, rfl, rfl, by decide +kernel, rfl, by decide +kernel, by decide +kernel⟩
abbrev s_read_words : Stmt := topS 52
theorem sc_read_words : FnScope ["word", "rest", "a", "item"] ["word", "rest"] (defScope s_read_words) := ⟨rfl, rfl, rfl, by decide +kernel, rfl, by decide +kernel, by decide +kernel⟩
abbrev s_checked_name : Stmt := topS 53
theorem sc_checked_name : FnScope ["word"] ["word"] (defScope s_checked_name) := ⟨rfl, rfl, rfl, by decide +kernel, rfl, by decide +kernel, by decide +kernel⟩
abbrev s_read_number : Stmt := topS 54
theorem sc_read_number : FnScope ["word", "least"] ["word", "least"] (defScope s_read_number) := ⟨rfl, rfl, rfl, by decide +kernel, rfl, by decide +kernel, by decide +kernel⟩
abbrev s_law_numbers : Stmt := topS 56
theorem sc_law_numbers : FnScope ["script", "found", "k", "cell", "turn", "i", "mixed_v"] ["script"] (defScope s_law_numbers) := ⟨rfl, rfl, rfl, by decide +kernel, rfl, by decide +kernel, by decide +kernel⟩
abbrev s_law_next : Stmt := topS 57
theorem sc_law_next : FnScope ["numbers", "many"] ["numbers", "many"] (defScope s_law_next) := ⟨rfl, rfl, rfl, by decide +kernel, rfl, by decide +kernel, by decide +kernel⟩
abbrev s_law_space : Stmt := topS 58
theorem sc_law_space : FnScope ["numbers"] ["numbers"] (defScope s_law_space) := ⟨rfl, rfl, rfl, by decide +kernel, rfl, by decide +kernel, by decide +kernel⟩
abbrev s_law_name : Stmt := topS 59
theorem sc_law_name : FnScope ["numbers"] ["numbers"] (defScope s_law_name) := ⟨rfl, rfl, rfl, by decide +kernel, rfl, by decide +kernel, by decide +kernel⟩
abbrev s_law_command : Stmt := topS 60
theorem sc_law_command : FnScope ["numbers", "one", "k", "point", "n", "turn"] ["numbers"] (defScope s_law_command) := ⟨rfl, rfl, rfl, by decide +kernel, rfl, by decide +kernel, by decide +kernel⟩
abbrev s_law_words : Stmt := topS 61
theorem sc_law_words : FnScope ["command", "x", "part"] ["command"] (defScope s_law_words) := ⟨rfl, rfl, rfl, by decide +kernel, rfl, by decide +kernel, by decide +kernel⟩
abbrev s_law_line : Stmt := topS 62
theorem sc_law_line : FnScope ["words", "numbers", "line", "word"] ["words", "numbers"] (defScope s_law_line) := ⟨rfl, rfl, rfl, by decide +kernel, rfl, by decide +kernel, by decide +kernel⟩
abbrev s_law_refuses : Stmt := topS 63
theorem sc_law_refuses : FnScope ["line", "e"] ["line"] (defScope s_law_refuses) := ⟨rfl, rfl, rfl, by decide +kernel, rfl, by decide +kernel, by decide +kernel⟩
abbrev s_law : Stmt := topS 64
theorem sc_law : FnScope ["script", "numbers", "command", "words", "line", "bad", "pick", "value", "names"] ["script"] (defScope s_law) := ⟨rfl, rfl, rfl, by decide +kernel, rfl, by decide +kernel, by decide +kernel⟩
structure Top (K : PySem.W.Frag) (mg : Str → Option Value) where
  a_Refused_init : Addr
  a_NoText_init : Addr
  a_is_integer : Addr
  a_determinant_of : Addr
  a_first_with_head : Addr
  a_cleared : Addr
  a_Grid_init : Addr
  a_Grid_eq : Addr
  a_Grid_transposed : Addr
  a_checked_rows : Addr
  a_checked_width : Addr
  a_is_word : Addr
  a_is_number : Addr
  a_Lattice_init : Addr
  a_Lattice_eq : Addr
  a_Lattice_str : Addr
  a_checked_gram : Addr
  a_is_positive : Addr
  a_read_lattice : Addr
  a_is_name : Addr
  a_read_line : Addr
  a_is_line : Addr
  a_read_let : Addr
  a_read_words : Addr
  a_checked_name : Addr
  a_read_number : Addr
  a_law_numbers : Addr
  a_law_next : Addr
  a_law_space : Addr
  a_law_name : Addr
  a_law_command : Addr
  a_law_words : Addr
  a_law_line : Addr
  a_law_refuses : Addr
  a_law : Addr
  t_COMMANDS : Addr
  t_NAME_ALONE : Addr
  k_MOST : Tok
  k_MOST_DIGITS_lattice : Tok
  k_MOST_DIGITS_sheet : Tok
  k_MOST_LETTERS : Tok
  k_MOST_NUMBER : Tok
  k_MOST_ROWS : Tok
  k_MOST_SIGNS : Tok
  k_PERCENT : Tok
  d_Refused_init : FuncData
  d_NoText_init : FuncData
  d_is_integer : FuncData
  d_determinant_of : FuncData
  d_first_with_head : FuncData
  d_cleared : FuncData
  d_Grid_init : FuncData
  d_Grid_eq : FuncData
  d_Grid_transposed : FuncData
  d_checked_rows : FuncData
  d_checked_width : FuncData
  d_is_word : FuncData
  d_is_number : FuncData
  d_Lattice_init : FuncData
  d_Lattice_eq : FuncData
  d_Lattice_str : FuncData
  d_checked_gram : FuncData
  d_is_positive : FuncData
  d_read_lattice : FuncData
  d_is_name : FuncData
  d_read_line : FuncData
  d_is_line : FuncData
  d_read_let : FuncData
  d_read_words : FuncData
  d_checked_name : FuncData
  d_read_number : FuncData
  d_law_numbers : FuncData
  d_law_next : FuncData
  d_law_space : FuncData
  d_law_name : FuncData
  d_law_command : FuncData
  d_law_words : FuncData
  d_law_line : FuncData
  d_law_refuses : FuncData
  d_law : FuncData
  C_Grid : Addr
  C_Lattice : Addr
  X_Malformed : Addr
  X_NoText : Addr
  X_Refused : Addr
  F_Refused_init : Fun K "__init__" "Refused.__init__" s_Refused_init a_Refused_init d_Refused_init
  b_Refused_init : Binds K d_Refused_init ["self", "reason"] []
  F_NoText_init : Fun K "__init__" "NoText.__init__" s_NoText_init a_NoText_init d_NoText_init
  b_NoText_init : Binds K d_NoText_init ["self", "at"] []
  F_is_integer : Fun K "is_integer" "is_integer" s_is_integer a_is_integer d_is_integer
  b_is_integer : Binds K d_is_integer ["value"] []
  g_is_integer : mg "is_integer" = some (.ref a_is_integer)
  F_determinant_of : Fun K "determinant_of" "determinant_of" s_determinant_of a_determinant_of d_determinant_of
  b_determinant_of : Binds K d_determinant_of ["rows"] []
  g_determinant_of : mg "determinant_of" = some (.ref a_determinant_of)
  F_first_with_head : Fun K "first_with_head" "first_with_head" s_first_with_head a_first_with_head d_first_with_head
  b_first_with_head : Binds K d_first_with_head ["rows"] []
  g_first_with_head : mg "first_with_head" = some (.ref a_first_with_head)
  F_cleared : Fun K "cleared" "cleared" s_cleared a_cleared d_cleared
  b_cleared : Binds K d_cleared ["top", "row", "last"] []
  g_cleared : mg "cleared" = some (.ref a_cleared)
  F_Grid_init : FunD K "__init__" "Grid.__init__" (defArgs s_Grid_init) (defBody s_Grid_init) (defScope s_Grid_init) [.non] [] a_Grid_init d_Grid_init
  b_Grid_init : Binds K d_Grid_init ["self", "rows", "width"] []
  F_Grid_eq : Fun K "__eq__" "Grid.__eq__" s_Grid_eq a_Grid_eq d_Grid_eq
  b_Grid_eq : Binds K d_Grid_eq ["self", "other"] []
  m_Grid_eq : Meth K C_Grid "__eq__" a_Grid_eq
  F_Grid_transposed : Fun K "transposed" "Grid.transposed" s_Grid_transposed a_Grid_transposed d_Grid_transposed
  b_Grid_transposed : Binds K d_Grid_transposed ["self"] []
  m_Grid_transposed : Meth K C_Grid "transposed" a_Grid_transposed
  F_checked_rows : Fun K "checked_rows" "checked_rows" s_checked_rows a_checked_rows d_checked_rows
  b_checked_rows : Binds K d_checked_rows ["rows"] []
  g_checked_rows : mg "checked_rows" = some (.ref a_checked_rows)
  F_checked_width : Fun K "checked_width" "checked_width" s_checked_width a_checked_width d_checked_width
  b_checked_width : Binds K d_checked_width ["rows", "width"] []
  g_checked_width : mg "checked_width" = some (.ref a_checked_width)
  F_is_word : Fun K "is_word" "is_word" s_is_word a_is_word d_is_word
  b_is_word : Binds K d_is_word ["value"] []
  g_is_word : mg "is_word" = some (.ref a_is_word)
  F_is_number : Fun K "is_number" "is_number" s_is_number a_is_number d_is_number
  b_is_number : Binds K d_is_number ["word", "most"] []
  g_is_number : mg "is_number" = some (.ref a_is_number)
  F_Lattice_init : Fun K "__init__" "Lattice.__init__" s_Lattice_init a_Lattice_init d_Lattice_init
  b_Lattice_init : Binds K d_Lattice_init ["self", "gram"] []
  F_Lattice_eq : Fun K "__eq__" "Lattice.__eq__" s_Lattice_eq a_Lattice_eq d_Lattice_eq
  b_Lattice_eq : Binds K d_Lattice_eq ["self", "other"] []
  m_Lattice_eq : Meth K C_Lattice "__eq__" a_Lattice_eq
  F_Lattice_str : Fun K "__str__" "Lattice.__str__" s_Lattice_str a_Lattice_str d_Lattice_str
  b_Lattice_str : Binds K d_Lattice_str ["self"] []
  m_Lattice_str : Meth K C_Lattice "__str__" a_Lattice_str
  F_checked_gram : Fun K "checked_gram" "checked_gram" s_checked_gram a_checked_gram d_checked_gram
  b_checked_gram : Binds K d_checked_gram ["gram"] []
  g_checked_gram : mg "checked_gram" = some (.ref a_checked_gram)
  F_is_positive : Fun K "is_positive" "is_positive" s_is_positive a_is_positive d_is_positive
  b_is_positive : Binds K d_is_positive ["rows"] []
  g_is_positive : mg "is_positive" = some (.ref a_is_positive)
  F_read_lattice : Fun K "read_lattice" "read_lattice" s_read_lattice a_read_lattice d_read_lattice
  b_read_lattice : Binds K d_read_lattice ["text"] []
  g_read_lattice : mg "read_lattice" = some (.ref a_read_lattice)
  F_is_name : Fun K "is_name" "is_name" s_is_name a_is_name d_is_name
  b_is_name : Binds K d_is_name ["value"] []
  g_is_name : mg "is_name" = some (.ref a_is_name)
  F_read_line : Fun K "read_line" "read_line" s_read_line a_read_line d_read_line
  b_read_line : Binds K d_read_line ["line"] []
  g_read_line : mg "read_line" = some (.ref a_read_line)
  F_is_line : Fun K "is_line" "is_line" s_is_line a_is_line d_is_line
  b_is_line : Binds K d_is_line ["value"] []
  g_is_line : mg "is_line" = some (.ref a_is_line)
  F_read_let : Fun K "read_let" "read_let" s_read_let a_read_let d_read_let
  b_read_let : Binds K d_read_let ["line"] []
  g_read_let : mg "read_let" = some (.ref a_read_let)
  F_read_words : Fun K "read_words" "read_words" s_read_words a_read_words d_read_words
  b_read_words : Binds K d_read_words ["word", "rest"] []
  g_read_words : mg "read_words" = some (.ref a_read_words)
  F_checked_name : Fun K "checked_name" "checked_name" s_checked_name a_checked_name d_checked_name
  b_checked_name : Binds K d_checked_name ["word"] []
  g_checked_name : mg "checked_name" = some (.ref a_checked_name)
  F_read_number : Fun K "read_number" "read_number" s_read_number a_read_number d_read_number
  b_read_number : Binds K d_read_number ["word", "least"] []
  g_read_number : mg "read_number" = some (.ref a_read_number)
  F_law_numbers : Fun K "_law_numbers" "_law_numbers" s_law_numbers a_law_numbers d_law_numbers
  b_law_numbers : Binds K d_law_numbers ["script"] []
  g_law_numbers : mg "_law_numbers" = some (.ref a_law_numbers)
  F_law_next : Fun K "_law_next" "_law_next" s_law_next a_law_next d_law_next
  b_law_next : Binds K d_law_next ["numbers", "many"] []
  g_law_next : mg "_law_next" = some (.ref a_law_next)
  F_law_space : Fun K "_law_space" "_law_space" s_law_space a_law_space d_law_space
  b_law_space : Binds K d_law_space ["numbers"] []
  g_law_space : mg "_law_space" = some (.ref a_law_space)
  F_law_name : Fun K "_law_name" "_law_name" s_law_name a_law_name d_law_name
  b_law_name : Binds K d_law_name ["numbers"] []
  g_law_name : mg "_law_name" = some (.ref a_law_name)
  F_law_command : Fun K "_law_command" "_law_command" s_law_command a_law_command d_law_command
  b_law_command : Binds K d_law_command ["numbers"] []
  g_law_command : mg "_law_command" = some (.ref a_law_command)
  F_law_words : Fun K "_law_words" "_law_words" s_law_words a_law_words d_law_words
  b_law_words : Binds K d_law_words ["command"] []
  g_law_words : mg "_law_words" = some (.ref a_law_words)
  F_law_line : Fun K "_law_line" "_law_line" s_law_line a_law_line d_law_line
  b_law_line : Binds K d_law_line ["words", "numbers"] []
  g_law_line : mg "_law_line" = some (.ref a_law_line)
  F_law_refuses : Fun K "_law_refuses" "_law_refuses" s_law_refuses a_law_refuses d_law_refuses
  b_law_refuses : Binds K d_law_refuses ["line"] []
  g_law_refuses : mg "_law_refuses" = some (.ref a_law_refuses)
  F_law : Fun K "law" "law" s_law a_law d_law
  b_law : Binds K d_law ["script"] []
  g_law : mg "law" = some (.ref a_law)
  g_Grid : mg "Grid" = some (.ref C_Grid)
  cl_Grid : Cls K C_Grid
  mk_Grid : Mk K C_Grid a_Grid_init
  n_rows : NoAttr K C_Grid "rows"
  n_width : NoAttr K C_Grid "width"
  sf_Grid : PySem.W.selfFirst K C_Grid = true
  kc_Grid : PySem.W.findIn K (.ref C_Grid) "__class__" = some (some (.builtin "object.__class__"))
  kg_Grid : PySem.W.specialIn K (.builtin "object.__class__") "__get__" = some (some (.builtin "getset_descriptor.__get__"))
  kt_Grid : PySem.W.takesIn K (.builtin "object.__class__") = some true
  km_Grid : PySem.W.mroIn K C_Grid (.type "object") = some true
  ty_Grid : PySem.W.typeIn K (.ref C_Grid) = some (.type "type")
  ic_Grid : PySem.W.isClsIn K C_Grid = true
  ne_Grid : PySem.W.findIn K (.ref C_Grid) "__ne__" = some (some (.builtin "object.__ne__"))
  g_Lattice : mg "Lattice" = some (.ref C_Lattice)
  cl_Lattice : Cls K C_Lattice
  mk_Lattice : Mk K C_Lattice a_Lattice_init
  n_gram : NoAttr K C_Lattice "gram"
  sf_Lattice : PySem.W.selfFirst K C_Lattice = true
  kc_Lattice : PySem.W.findIn K (.ref C_Lattice) "__class__" = some (some (.builtin "object.__class__"))
  kg_Lattice : PySem.W.specialIn K (.builtin "object.__class__") "__get__" = some (some (.builtin "getset_descriptor.__get__"))
  kt_Lattice : PySem.W.takesIn K (.builtin "object.__class__") = some true
  km_Lattice : PySem.W.mroIn K C_Lattice (.type "object") = some true
  ty_Lattice : PySem.W.typeIn K (.ref C_Lattice) = some (.type "type")
  ic_Lattice : PySem.W.isClsIn K C_Lattice = true
  ne_Lattice : PySem.W.findIn K (.ref C_Lattice) "__ne__" = some (some (.builtin "object.__ne__"))
  sub_GL : PySem.W.subIn K (.ref C_Grid) (.ref C_Lattice) = some false
  se_L : PySem.W.subIn K (.ref C_Lattice) (.ref C_Lattice) = some true
  z_ValueError : mg "ValueError" = none
  z_abs : mg "abs" = none
  z_all : mg "all" = none
  z_bool : mg "bool" = none
  z_enumerate : mg "enumerate" = none
  z_int : mg "int" = none
  z_isinstance : mg "isinstance" = none
  z_len : mg "len" = none
  z_list : mg "list" = none
  z_max : mg "max" = none
  z_min : mg "min" = none
  z_ord : mg "ord" = none
  z_range : mg "range" = none
  z_str : mg "str" = none
  z_tuple : mg "tuple" = none
  g_MOST : mg "MOST" = some (.int 10000 k_MOST)
  g_MOST_DIGITS_lattice : mg "MOST_DIGITS_lattice" = some (.int 5 k_MOST_DIGITS_lattice)
  g_MOST_DIGITS_sheet : mg "MOST_DIGITS_sheet" = some (.int 4 k_MOST_DIGITS_sheet)
  g_MOST_LETTERS : mg "MOST_LETTERS" = some (.int 8 k_MOST_LETTERS)
  g_MOST_NUMBER : mg "MOST_NUMBER" = some (.int 9999 k_MOST_NUMBER)
  g_MOST_ROWS : mg "MOST_ROWS" = some (.int 4 k_MOST_ROWS)
  g_MOST_SIGNS : mg "MOST_SIGNS" = some (.int 2000 k_MOST_SIGNS)
  g_PERCENT : mg "PERCENT" = some (.int 37 k_PERCENT)
  g_COMMANDS : mg "COMMANDS" = some (.ref t_COMMANDS)
  q_COMMANDS : ∀ H : Hp, SqT K H t_COMMANDS [V.str "form", V.str "alike", V.str "group", V.str "short", V.str "nearest", V.str "parts", V.str "dual", V.str "below", V.str "above"]
  g_NAME_ALONE : mg "NAME_ALONE" = some (.ref t_NAME_ALONE)
  q_NAME_ALONE : ∀ H : Hp, SqT K H t_NAME_ALONE [V.str "form", V.str "group", V.str "parts", V.str "dual", V.str "above"]
  oX_NoText : OexC K X_NoText
  nI_NoText : PySem.W.findIn K (.ref X_NoText) "__init__" = some (some (.ref a_NoText_init))
  jI_NoText : PySem.W.typeIn K (.ref a_NoText_init) = some (.type "function")
  nf_NoText : PySem.W.findIn K (.ref X_NoText) "at" = some none
  fX_NoText : XfC K X_NoText
  cX_NoText : (PySem.W.clsIn K X_NoText).isSome = true
  mX_NoText : PySem.W.mroIn K X_NoText (.type "object") = some true
  hX_NoText : PySem.W.findIn K (.ref X_NoText) "__class__" = some (some (.builtin "object.__class__"))
  sub_NoText_Malformed : PySem.W.subIn K (.ref X_NoText) (.ref X_Malformed) = some false
  sub_Malformed_NoText : PySem.W.subIn K (.ref X_Malformed) (.ref X_NoText) = some false
  sub_NoText_Refused : PySem.W.subIn K (.ref X_NoText) (.ref X_Refused) = some false
  sub_Refused_NoText : PySem.W.subIn K (.ref X_Refused) (.ref X_NoText) = some false
  oX_Refused : OexC K X_Refused
  nI_Refused : PySem.W.findIn K (.ref X_Refused) "__init__" = some (some (.ref a_Refused_init))
  jI_Refused : PySem.W.typeIn K (.ref a_Refused_init) = some (.type "function")
  nf_Refused : PySem.W.findIn K (.ref X_Refused) "reason" = some none
  fX_Refused : XfC K X_Refused
  cX_Refused : (PySem.W.clsIn K X_Refused).isSome = true
  mX_Refused : PySem.W.mroIn K X_Refused (.type "object") = some true
  hX_Refused : PySem.W.findIn K (.ref X_Refused) "__class__" = some (some (.builtin "object.__class__"))
  sub_Refused_Malformed : PySem.W.subIn K (.ref X_Refused) (.ref X_Malformed) = some false
  sub_Malformed_Refused : PySem.W.subIn K (.ref X_Malformed) (.ref X_Refused) = some false
  gX_Malformed : mg "Malformed" = some (.ref X_Malformed)
  xX_Malformed : PySem.W.excIn K X_Malformed [.type "ValueError", .type "Exception", .type "BaseException", .type "object"] "ValueError.__new__" = true
  kX_Malformed : PySem.W.keepIn K (.ref X_Malformed) = true
  bX_Malformed : PySem.W.subIn K (.ref X_Malformed) (.type "BaseException") = some true
  tX_Malformed : PySem.W.typeIn K (.ref X_Malformed) = some (.type "type")
  iX_Malformed : PySem.W.isClsIn K X_Malformed = true
  sX_Malformed : PySem.W.subIn K (.ref X_Malformed) (.ref X_Malformed) = some true
  gX_NoText : mg "NoText" = some (.ref X_NoText)
  kX_NoText : PySem.W.keepIn K (.ref X_NoText) = true
  bX_NoText : PySem.W.subIn K (.ref X_NoText) (.type "BaseException") = some true
  tX_NoText : PySem.W.typeIn K (.ref X_NoText) = some (.type "type")
  iX_NoText : PySem.W.isClsIn K X_NoText = true
  sX_NoText : PySem.W.subIn K (.ref X_NoText) (.ref X_NoText) = some true
  gX_Refused : mg "Refused" = some (.ref X_Refused)
  kX_Refused : PySem.W.keepIn K (.ref X_Refused) = true
  bX_Refused : PySem.W.subIn K (.ref X_Refused) (.type "BaseException") = some true
  tX_Refused : PySem.W.typeIn K (.ref X_Refused) = some (.type "type")
  iX_Refused : PySem.W.isClsIn K X_Refused = true
  sX_Refused : PySem.W.subIn K (.ref X_Refused) (.ref X_Refused) = some true
end K50
namespace K50
open PySem PySem.Spec PyProof.Rows L2 Gm
open C8 (Cal Met Mak pe_c pe_mt pe_mt0 pe_mk)
section
variable {P : Program} {w : World} {K : PySem.W.Frag} {mg : Str → Option Value} {base : Heap}
/-! ### is_integer -/
def sp_is_integer : Sp := fun vs H Q _ => ∃ i, vs = [V.int i] ∧ Q (.bl true) H
theorem ok_is_integer (T : Top K mg) : FnOk P w K mg base CX0 1 T.a_is_integer T.d_is_integer ["value"] sp_is_integer := by
  refine T.F_is_integer.ok sc_is_integer (fun vs H Q E h => ?_) (fun cdv A outer s H vs Q E hr h => ?_)
  · obtain ⟨i, rfl, _⟩ := h
    rfl
  · obtain ⟨i, rfl, q⟩ := h
    refine ⟨_, (pss_one (ps_ret (pe_and (pe_callB (isiK K rfl) (by rfl) T.z_isinstance (by decide +kernel) (pa_cons (pv 0) (pa_cons (pe_bltn (v := .ty "int") (by rfl) T.z_int (by decide +kernel) rfl) pa_nil))) (pe_one (pe_not (pe_callB (isiK K rfl) (by rfl) T.z_isinstance (by decide +kernel) (pa_cons (pv 0) (pa_cons (pe_bltn (v := .ty "bool") (by rfl) T.z_bool (by decide +kernel) rfl) pa_nil)))))))), ?_⟩
    refine ⟨_, rfl, .int i, .ty "int", _, _, true, rfl, .ty "int", .base (.int i), kit_ty (by decide +kernel), true, rfl, iteT ?_⟩
    exact ⟨_, rfl, .int i, .ty "bool", _, _, false, rfl, .ty "bool", .base (.int i), kit_ty (by decide +kernel), false, rfl, q⟩
theorem cal_is_integer (T : Top K mg) (hN : base.NoSeer) (hT : P.given.tree = none) : Cal P w K mg base 1 "is_integer" sp_is_integer [] := ⟨⟨_, _, _, [], ok_is_integer T, T.g_is_integer, T.F_is_integer.kp, T.b_is_integer, .nil⟩⟩
/-! ### first_with_head -/
/-- the first place from k on whose row does not begin with 0 -/
def firstHead : List (List Int) → Nat → Option Nat
  | [], _ => none
  | r :: rs, k => if r.headD 0 ≠ 0 then some k else firstHead rs (k + 1)
theorem firstHead_step : ∀ (m : List (List Int)) (i j : Nat) (r : List Int), m[i]? = some r → (∀ k, k < i → ∀ r', m[k]? = some r' → r'.headD 0 = 0) → firstHead m j = if r.headD 0 ≠ 0 then some (j + i) else firstHead (m.drop (i + 1)) (j + i + 1)
  | [], i, j, r, h, _ => by simp at h
  | a :: m, 0, j, r, h, _ => by
    have e : a = r := by simpa using h
    subst e
    rfl
  | a :: m, i + 1, j, r, h, z => by
    have h0 : a.headD 0 = 0 := z 0 (Nat.succ_pos _) a rfl
    show (if a.headD 0 ≠ 0 then some j else firstHead m (j + 1)) = _
    rw [if_neg (by rw [h0]; simp), firstHead_step m i (j + 1) r (by simpa using h) fun k hk r' e => z (k + 1) (by omega) r' (by simpa using e)]
    rw [show j + 1 + i = j + (i + 1) by omega]
    rfl
theorem firstHead_none {m : List (List Int)} : ∀ {j : Nat}, (∀ r ∈ m, r.headD 0 = 0) → firstHead m j = none := by
  induction m with
  | nil => intro _ _; rfl
  | cons a m ih =>
    intro j h
    show (if a.headD 0 ≠ 0 then some j else firstHead m (j + 1)) = none
    rw [if_neg (by rw [h a (List.mem_cons_self ..)]; simp), ih fun r hr => h r (List.mem_cons_of_mem _ hr)]
def optV : Option Nat → V
  | none => .non
  | some k => .int k
def sp_first_with_head (K : PySem.W.Frag) : Sp := fun vs H Q _ => ∃ v m, vs = [v] ∧ IRows K H v m ∧ m.length ≤ 1000 ∧ (∀ r ∈ m, r ≠ []) ∧ ∀ H', Same H H' → Q (optV (firstHead m 0)) H'
theorem ok_first_with_head (T : Top K mg) : FnOk P w K mg base CX0 1 T.a_first_with_head T.d_first_with_head ["rows"] (sp_first_with_head K) := by
  refine T.F_first_with_head.ok sc_first_with_head (fun vs H Q E h => ?_) (fun cdv A outer s H vs Q E hr h => ?_)
  · obtain ⟨v, m, rfl, _⟩ := h
    rfl
  · obtain ⟨v, m, rfl, ⟨a, vs, rfl, hs, hp⟩, hl, hne, q⟩ := h
    refine ⟨_, (pss_cons (ps_for PassesOwn.never rfl (piEnum K rfl (by rfl) T.z_enumerate (pa_cons (pv 0) pa_nil)) (pg_tup rfl (pgs_cons (pg_name (i := 1) sc_first_with_head.nd rfl (by first | exact .inl rfl | exact .inr rfl)) (pgs_cons (pg_name (i := 2) sc_first_with_head.nd rfl (by first | exact .inl rfl | exact .inr rfl)) pgs_nil)))
      (pss_one (ps_if (pt_cmpR op_ne (pe_ix (ixS K rfl) (pv 2) pe_int (fun _ _ => rfl)) pe_int (nomark _))
      (pss_one (ps_ret (pv 1)))
      pss_nil)))
      (pss_one (ps_ret pe_non))), ?_⟩
    have lv := Paired.length hp
    refine ⟨_, rfl, a, vs, rfl, hs, fun J G W hG => ?_⟩
    refine for_it W (fun i σ H2 => ∃ y1 y2, σ = [some (.ref a), y1, y2] ∧ Same H H2 ∧ ∀ k, k < i → ∀ r, m[k]? = some r → r.headD 0 = 0) ⟨none, none, rfl, Same.refl H, fun k hk => absurd hk (Nat.not_lt_zero _)⟩ ?_ ?_ ?_
    · rintro i σ H2 hi ⟨y1, y2, rfl, s2, _⟩
      exact hG _ fun b _ o => s2 b o
    · rintro i x σ H2 H2' hi ⟨y1, y2, rfl, s2, hz⟩ ⟨U, x1, x2, rfl, nU, rfl, e1, e2⟩
      cases e1
      obtain ⟨r, er, a2, rfl, hs2⟩ := Paired.getR hp e2
      have hmr : r ∈ m := List.mem_of_getElem? er
      obtain ⟨z, r', rfl⟩ : ∃ z r', r = z :: r' := by
        cases r with
        | nil => exact absurd rfl (hne _ hmr)
        | cons z r' => exact ⟨z, r', rfl⟩
      have sU : Same H2 (upd H2 U (.tup [.int (i : Nat), .ref a2])) := same_upd nU
      refine g_pair nU ?_
      have hs3 := hs2.same (s2.trans sU)
      refine ⟨_, rfl, ?_⟩
      have at0 : atI ((z :: r').map V.int) 0 = some (.int z) := atI_nat (j := 0) rfl
      refine rIx_seq hs3 at0 ?_
      refine ⟨rfl, _, rfl, ?_⟩
      by_cases hz0 : z = 0
      · subst hz0
        refine iteNS rfl ?_
        refine ⟨_, _, rfl, s2.trans sU, fun k hk r'' e => ?_⟩
        by_cases hki : k = i
        · subst hki
          rw [er] at e
          cases e
          rfl
        · exact hz k (by omega) r'' e
      · rw [show decide (V.int z = V.int 0) = false from decide_eq_false fun e => hz0 (V.int.inj e)]
        refine iteT ?_
        refine ⟨_, rfl, ?_⟩
        have e := firstHead_step m i 0 (z :: r') er hz
        rw [if_pos (show (z :: r').headD 0 ≠ 0 from hz0), Nat.zero_add] at e
        rw [e] at q
        exact q _ (s2.trans sU)
    · rintro σ H2 ⟨y1, y2, rfl, s2, hz⟩
      have e : firstHead m 0 = none := firstHead_none fun r hr => by
        obtain ⟨k, hk⟩ := List.getElem?_of_mem hr
        refine hz k ?_ r hk
        rw [lv]
        exact (List.getElem?_eq_some_iff.mp hk).1
      rw [e] at q
      exact q _ s2
theorem cal_first_with_head (T : Top K mg) (hN : base.NoSeer) (hT : P.given.tree = none) : Cal P w K mg base 1 "first_with_head" (sp_first_with_head K) [] := ⟨⟨_, _, _, [], ok_first_with_head T, T.g_first_with_head, T.F_first_with_head.kp, T.b_first_with_head, .nil⟩⟩

end
end K50
namespace K50
open PySem PySem.Spec PyProof.Rows L2 Gm
open C8 (Cal Met Mak pe_c pe_mt pe_mt0 pe_mk)
section
variable {P : Program} {w : World} {K : PySem.W.Frag} {mg : Str → Option Value} {base : Heap}
/-! ### cleared -/
/-- the items of the row behind its first, once that is made 0 by the top row -/
def clr (ts rs : List Int) (l : Int) : List Int := List.zipWith (fun a b => (ts.headD 0 * b - rs.headD 0 * a).fdiv l) ts.tail rs.tail
theorem clr_len {ts rs : List Int} {l : Int} (h : ts.length = rs.length) : (clr ts rs l).length = ts.length - 1 := by
  unfold clr
  rw [List.length_zipWith, List.length_tail, List.length_tail, h, Nat.min_self]
theorem clr_get {ts rs : List Int} {l : Int} {k : Nat} {a b : Int} (h1 : ts[k + 1]? = some a) (h2 : rs[k + 1]? = some b) : (clr ts rs l)[k]? = some ((ts.headD 0 * b - rs.headD 0 * a).fdiv l) := by
  unfold clr
  rw [List.getElem?_zipWith]
  have e1 : ts.tail[k]? = some a := by rw [List.getElem?_tail]; exact h1
  have e2 : rs.tail[k]? = some b := by rw [List.getElem?_tail]; exact h2
  rw [e1, e2]
/-- all items have fewer than B bits -/
def Bits (B : Nat) (ns : List Int) : Prop := ∀ x ∈ ns, x.natAbs < 2 ^ B
theorem Bits.at {B : Nat} {ns : List Int} {k : Nat} {x : Int} (h : Bits B ns) (e : ns[k]? = some x) : x.natAbs < 2 ^ B := h x (List.mem_of_getElem? e)
def sp_cleared (K : PySem.W.Frag) : Sp := fun vs H Q _ => ∃ v1 v2 ts rs l B, vs = [v1, v2, V.int l] ∧ IRow K H v1 ts ∧ IRow K H v2 rs ∧ ts.length = rs.length ∧ 0 < ts.length ∧ ts.length ≤ 1000 ∧ l ≠ 0 ∧ Bits B ts ∧ Bits B rs ∧ B ≤ 60000000 ∧
  ∀ H' p, Same H H' → H p = none → H' p = some (.lst ((clr ts rs l).map V.int)) → Q (.ref p) H'
theorem ok_cleared (T : Top K mg) (hN : base.NoSeer) (hT : P.given.tree = none) : FnOk P w K mg base CX0 41 T.a_cleared T.d_cleared ["top", "row", "last"] (sp_cleared K) := by
  refine T.F_cleared.ok sc_cleared (fun vs H Q E h => ?_) (fun cdv A outer s H vs Q E hr h => ?_)
  · obtain ⟨v1, v2, ts, rs, l, B, rfl, _⟩ := h
    rfl
  · obtain ⟨v1, v2, ts, rs, l, B, rfl, ⟨a, rfl, ht⟩, ⟨b, rfl, hr'⟩, hl, h0, hl2, hl0, bt, br, hB, q⟩ := h
    refine ⟨_, (pss_one (ps_ret (pe_lc (own := [("k", 3)]) (g := (gName 3)) (by rfl) sc_cleared.nd (pi_range2 (by rfl) T.z_range (pa_cons pe_int (pa_cons (pe_callB (lenS K rfl) (by rfl) T.z_len (by decide +kernel) (pa_cons (pv 0) pa_nil)) pa_nil))) ((by show BlkOk ["top", "row", "last", "k"] (defScope s_cleared) _ _; exact blkOk_by (by decide +kernel))) (fun _ _ _ _ _ => (pg_name (i := 3) sc_cleared.nd rfl (by first | exact .inl rfl | exact .inr rfl))) (fun _ _ _ _ _ => pts_nil) (fun _ _ _ _ _ => (pe_op (op_fdivQ hN rfl rfl rfl rfl rfl hT (room100 hr (by decide))) (pe_op op_sub (pe_op op_mulX (pe_ix (ixS K rfl) (pv 0) pe_int (fun _ _ => rfl)) (pe_ix (ixS K rfl) (pv 1) (pv 3) (fun _ _ => rfl))) (pe_op op_mulX (pe_ix (ixS K rfl) (pv 1) pe_int (fun _ _ => rfl)) (pe_ix (ixS K rfl) (pv 0) (pv 3) (fun _ _ => rfl)))) (pv 2)))))), ?_⟩
    refine ⟨_, rfl, a, _, rfl, ht, 1, _, rfl, ⟨by decide, by decide, by rw [List.length_map]; omega, by rw [List.length_map]; omega⟩, fun D hD => ?_⟩
    refine lc_all walk_range hD (by rw [List.length_map]; omega) (fun _ _ => trivial) (fun i v _ => ∃ x y, ts[i + 1]? = some x ∧ rs[i + 1]? = some y ∧ v = .int ((ts.headD 0 * y - rs.headD 0 * x).fdiv l)) (fun _ _ _ _ _ _ _ h => h) ?_ gm_name ?_
    · rintro i x H2 H2' acc Ko hi s2 eD ⟨rfl, rfl⟩ k
      refine ⟨rfl, ?_⟩
      have hi' : i + 1 < ts.length := by
        rw [List.length_map] at hi
        omega
      have hi2 : i + 1 < rs.length := by omega
      have e0 : atI (ts.map V.int) 0 = some (.int (ts.headD 0)) := by
        cases ts with
        | nil => exact absurd h0 (by simp)
        | cons t ts => exact atI_nat (j := 0) rfl
      have f0 : atI (rs.map V.int) 0 = some (.int (rs.headD 0)) := by
        cases rs with
        | nil => rw [List.length_nil] at hi2; omega
        | cons t ts => exact atI_nat (j := 0) rfl
      have e1 : atI (ts.map V.int) (1 + (i : Nat)) = some (.int ts[i + 1]) := at_of (j := i + 1) (by omega) (ints_at (List.getElem?_eq_getElem hi'))
      have f1 : atI (rs.map V.int) (1 + (i : Nat)) = some (.int rs[i + 1]) := at_of (j := i + 1) (by omega) (ints_at (List.getElem?_eq_getElem hi2))
      have bt0 : (ts.headD 0).natAbs < 2 ^ B := by
        cases ts with
        | nil => exact absurd h0 (by simp)
        | cons t ts => exact bt t (List.mem_cons_self ..)
      have br0 : (rs.headD 0).natAbs < 2 ^ B := by
        cases rs with
        | nil => rw [List.length_nil] at hi2; omega
        | cons t ts => exact br t (List.mem_cons_self ..)
      refine ⟨_, rfl, ?_⟩
      refine rIx_seq (ht.same s2) e0 ?_
      refine ⟨_, rfl, _, rfl, ?_⟩
      refine rIx_seq (hr'.same s2) f1 ?_
      refine ⟨_, _, rfl, rfl, mulx_ok bt0 (br.at (List.getElem?_eq_getElem hi2)) (by omega), ?_⟩
      refine ⟨_, rfl, ?_⟩
      refine rIx_seq (hr'.same s2) f0 ?_
      refine ⟨_, rfl, _, rfl, ?_⟩
      refine rIx_seq (ht.same s2) e1 ?_
      refine ⟨_, _, rfl, rfl, mulx_ok br0 (bt.at (List.getElem?_eq_getElem hi')) (by omega), ?_⟩
      refine ⟨_, _, rfl, rfl, ?_⟩
      refine ⟨_, rfl, _, l, rfl, rfl, hl0, ?_⟩
      exact k _ _ (Same.refl _) ⟨_, _, List.getElem?_eq_getElem hi', List.getElem?_eq_getElem hi2, rfl⟩
    · intro H2 lst s2 eD hp
      have el : lst = (clr ts rs l).map V.int := by
        apply List.ext_getElem?
        intro i
        have ln := Paired.length hp
        rw [List.length_range, List.length_map] at ln
        have lc := clr_len (l := l) hl
        by_cases hi : i < lst.length
        · obtain ⟨j, ej, x, y, ex, ey, ev⟩ := Paired.getL hp (List.getElem?_eq_getElem hi)
          have hj : j = i := by
            have := List.getElem?_range (n := ((ts.length : Int) - 1).toNat) (i := i) (by omega)
            rw [List.length_map] at ej
            rw [this] at ej
            exact (Option.some.inj ej).symm
          subst hj
          rw [List.getElem?_eq_getElem hi, ev, List.getElem?_map, clr_get ex ey]
          rfl
        · rw [List.getElem?_eq_none (by omega), List.getElem?_eq_none (by rw [List.length_map]; omega)]
      rw [el] at eD
      exact q H2 D s2 hD eD
theorem cal_cleared (T : Top K mg) (hN : base.NoSeer) (hT : P.given.tree = none) : Cal P w K mg base 41 "cleared" (sp_cleared K) [] := ⟨⟨_, _, _, [], ok_cleared T hN hT, T.g_cleared, T.F_cleared.kp, T.b_cleared, .nil⟩⟩

end
end K50
namespace K50
open PySem PySem.Spec PyProof.Rows L2 Gm
open C8 (Cal Met Mak pe_c pe_mt pe_mt0 pe_mk)
section
variable {P : Program} {w : World} {K : PySem.W.Frag} {mg : Str → Option Value} {base : Heap}
/-! ### determinant_of -/
/-- the elimination without fractions, by the number of rows -/
def bare : Nat → Int → Int → List (List Int) → Int
  | 0, s, l, _ => s * l
  | n + 1, s, l, m => match firstHead m 0 with
    | none => 0
    | some k => bare n (if k % 2 = 1 then -s else s) ((m.getD k []).headD 0) ((m.eraseIdx k).map fun r => clr (m.getD k []) r l)
theorem firstHead_some : ∀ {m : List (List Int)} {j k : Nat}, firstHead m j = some k → j ≤ k ∧ k < j + m.length ∧ (m.getD (k - j) []).headD 0 ≠ 0
  | [], _, _, h => by cases h
  | a :: m, j, k, h => by
    by_cases ha : a.headD 0 ≠ 0
    · have e : firstHead (a :: m) j = some j := if_pos ha
      rw [e] at h
      cases h
      refine ⟨Nat.le_refl _, by simp, ?_⟩
      rw [Nat.sub_self]
      exact ha
    · have e : firstHead (a :: m) j = firstHead m (j + 1) := if_neg ha
      rw [e] at h
      obtain ⟨h1, h2, h3⟩ := firstHead_some h
      refine ⟨by omega, by rw [List.length_cons]; omega, ?_⟩
      rw [show k - j = (k - (j + 1)) + 1 by omega]
      exact h3
theorem fdiv_le (x l : Int) : (x.fdiv l).natAbs ≤ x.natAbs := by
  cases x with
  | ofNat m =>
    cases l with
    | ofNat n =>
      show (Int.fdiv (m : Int) (n : Int)).natAbs ≤ m
      rw [Int.fdiv_eq_ediv_of_nonneg _ (by omega)]
      show m / n ≤ m
      exact Nat.div_le_self _ _
    | negSucc n =>
      cases m with
      | zero => exact Nat.le_refl _
      | succ m =>
        show (m / (n + 1)) + 1 ≤ m + 1
        have := Nat.div_le_self m (n + 1)
        omega
  | negSucc m =>
    cases l with
    | ofNat n =>
      cases n with
      | zero => exact Nat.zero_le _
      | succ n =>
        show (m / (n + 1)) + 1 ≤ m + 1
        have := Nat.div_le_self m (n + 1)
        omega
    | negSucc n =>
      show (m + 1) / (n + 1) ≤ m + 1
      exact Nat.div_le_self _ _
theorem clr_bits {ts rs : List Int} {l : Int} {B : Nat} (bt : Bits B ts) (br : Bits B rs) : Bits (2 * B + 1) (clr ts rs l) := by
  intro x hx
  obtain ⟨k, hk⟩ := List.getElem?_of_mem hx
  unfold clr at hk
  rw [List.getElem?_zipWith] at hk
  cases e1 : ts.tail[k]? with
  | none => rw [e1] at hk; cases hk
  | some a =>
    cases e2 : rs.tail[k]? with
    | none => rw [e1, e2] at hk; cases hk
    | some b =>
      rw [e1, e2] at hk
      have ex : (ts.headD 0 * b - rs.headD 0 * a).fdiv l = x := Option.some.inj hk
      rw [← ex]
      refine Nat.lt_of_le_of_lt (fdiv_le _ _) ?_
      have ha : a.natAbs < 2 ^ B := bt a (List.mem_of_mem_tail (List.mem_of_getElem? e1))
      have hb : b.natAbs < 2 ^ B := br b (List.mem_of_mem_tail (List.mem_of_getElem? e2))
      have h1 : (ts.headD 0).natAbs < 2 ^ B := by
        cases ts with
        | nil => cases e1
        | cons t ts => exact bt t (List.mem_cons_self ..)
      have h2 : (rs.headD 0).natAbs < 2 ^ B := by
        cases rs with
        | nil => cases e2
        | cons t ts => exact br t (List.mem_cons_self ..)
      have p1 := wide_lt h1 hb
      have p2 := wide_lt h2 ha
      have e3 : 2 ^ (2 * B + 1) = 2 ^ (B + B) + 2 ^ (B + B) := by rw [show 2 * B + 1 = (B + B) + 1 by omega, Nat.pow_succ]; omega
      rw [e3]
      omega
/-- a square matrix of size n whose items have fewer than B bits -/
structure Sq (n B : Nat) (m : List (List Int)) : Prop where
  len : m.length = n
  row : ∀ r ∈ m, r.length = n
  bits : ∀ r ∈ m, Bits B r
theorem Sq.next {n B : Nat} {m : List (List Int)} (h : Sq (n + 1) B m) {k : Nat} (hk : k < n + 1) (l : Int) : Sq n (2 * B + 1) ((m.eraseIdx k).map fun r => clr (m.getD k []) r l) := by
  have hk' : k < m.length := by rw [h.len]; exact hk
  have eg : m.getD k [] = m[k] := by rw [List.getD_eq_getElem?_getD, List.getElem?_eq_getElem hk']; rfl
  have hm : m.getD k [] ∈ m := by rw [eg]; exact List.getElem_mem _
  refine ⟨?_, fun r hr => ?_, fun r hr => ?_⟩
  · rw [List.length_map, List.length_eraseIdx_of_lt hk', h.len]
    rfl
  · obtain ⟨r', hr', rfl⟩ := List.mem_map.mp hr
    have h1 := h.row r' (List.mem_of_mem_eraseIdx hr')
    have h2 := h.row _ hm
    rw [clr_len (by omega)]
    omega
  · obtain ⟨r', hr', rfl⟩ := List.mem_map.mp hr
    exact clr_bits (h.bits _ hm) (h.bits _ (List.mem_of_mem_eraseIdx hr'))
/-- the places that are kept -/
theorem filter_ne_range (n k : Nat) : (List.range n).filter (fun i => decide (i ≠ k)) = (List.range n).eraseIdx k := by
  induction n with
  | zero => simp
  | succ n ih =>
    rw [List.range_succ, List.filter_append, ih, List.filter_cons, List.filter_nil]
    by_cases h : n = k
    · subst h
      rw [if_neg (by simp), List.append_nil, List.eraseIdx_append_of_length_le (by simp), List.length_range, Nat.sub_self]
      simp [List.eraseIdx_of_length_le]
    · rw [if_pos (by simpa using h)]
      by_cases h2 : k < n
      · rw [List.eraseIdx_append_of_lt_length (by simpa using h2)]
      · rw [List.eraseIdx_of_length_le (by simp; omega), List.eraseIdx_of_length_le (by simp; omega)]
theorem map_range_get (m : List (List Int)) : (List.range m.length).map (fun i => m.getD i []) = m := by
  apply List.ext_getElem?
  intro i
  rw [List.getElem?_map]
  by_cases h : i < m.length
  · rw [List.getElem?_range h, List.getElem?_eq_getElem h]
    show some (m.getD i []) = _
    rw [List.getD_eq_getElem?_getD, List.getElem?_eq_getElem h]
    rfl
  · rw [List.getElem?_eq_none (by simpa using h), List.getElem?_eq_none (by omega)]
    rfl
theorem eraseIdx_map' {α β : Type} (f : α → β) : ∀ (l : List α) (k : Nat), (l.map f).eraseIdx k = (l.eraseIdx k).map f
  | [], _ => rfl
  | _ :: _, 0 => rfl
  | a :: l, k + 1 => congrArg (f a :: ·) (eraseIdx_map' f l k)
theorem erase_map_range {β : Type} (m : List (List Int)) (k : Nat) (f : List Int → β) : (m.eraseIdx k).map f = ((List.range m.length).eraseIdx k).map fun i => f (m.getD i []) := by
  have h : m.eraseIdx k = ((List.range m.length).eraseIdx k).map fun i => m.getD i [] := by
    rw [← eraseIdx_map', map_range_get]
  rw [h, List.map_map]
  rfl
theorem paired_map {α β γ : Type} {F : α → γ → Prop} {f : β → γ} : ∀ {l : List α} {is : List β}, Paired (fun i v => F v (f i)) is l → Paired F l (is.map f)
  | _, _, .nil => .nil
  | _, _, .cons r t => .cons r (paired_map t)
def sp_determinant_of (K : PySem.W.Frag) : Sp := fun vs H Q _ => ∃ v m n B, vs = [v] ∧ IRows K H v m ∧ Sq n B m ∧ n ≤ 5 ∧ B ≤ 1200000 ∧ ∀ H', Same H H' → Q (.int (bare n 1 1 m)) H'
theorem ok_determinant_of (T : Top K mg) (hN : base.NoSeer) (hT : P.given.tree = none) : FnOk P w K mg base CX0 42 T.a_determinant_of T.d_determinant_of ["rows"] (sp_determinant_of K) := by
  refine T.F_determinant_of.ok sc_determinant_of (fun vs H Q E h => ?_) (fun cdv A outer s H vs Q E hr h => ?_)
  · obtain ⟨v, m, n, B, rfl, _⟩ := h
    rfl
  · obtain ⟨v, m, n, B, rfl, hm, hsq, hn, hB, q⟩ := h
    have hr1 := hr
    refine ⟨_, (pss_cons (ps_set (i := 1) sc_determinant_of.nd rfl (by first | exact .inl rfl | exact .inr rfl) pe_int)
      (pss_cons (ps_set (i := 2) sc_determinant_of.nd rfl (by first | exact .inl rfl | exact .inr rfl) pe_int)
      (pss_cons (ps_while PassesOwn.never (pt_cmpR op_gt (pe_callB (lenS K rfl) (by rfl) T.z_len (by decide +kernel) (pa_cons (pv 0) pa_nil)) pe_int (nomark _))
      (pss_cons (ps_set (i := 3) sc_determinant_of.nd rfl (by first | exact .inl rfl | exact .inr rfl) (pe_c (cal_first_with_head T hN hT) hr (by decide) (by rfl) (pa_cons (pv 0) pa_nil)))
      (pss_cons (ps_if (pt_cmpR op_isN (pv 3) pe_non (nomark _))
      (pss_one (ps_ret pe_int))
      pss_nil)
      (C8.pss_cut (ps_if (pt_truth (pe_op op_odd (pv 3) pe_int) (by intro _; rfl))
      (pss_one (ps_set (i := 1) sc_determinant_of.nd rfl (by first | exact .inl rfl | exact .inr rfl) (pe_un un_neg (pv 1))))
      pss_nil)
      (pss_cons (ps_set (i := 4) sc_determinant_of.nd rfl (by first | exact .inl rfl | exact .inr rfl) (pe_ix (ixS K rfl) (pv 0) (pv 3) (fun _ _ => rfl)))
      (pss_cons (ps_setLc (i := 0) (own := [("k", 5), ("row", 6)]) (g := (gTup K 2 (gCons (gName 5) (gCons (gName 6) gNil)))) (by rfl) sc_determinant_of.nd rfl rfl (sw_true rfl rfl rfl (by decide +kernel)) (piEnum K rfl (by rfl) T.z_enumerate (pa_cons (pv 0) pa_nil)) ((by show BlkOk ["rows", "sign", "last", "at", "top", "k", "row"] (defScope s_determinant_of) _ _; exact blkOk_by (by decide +kernel))) (fun _ _ _ _ _ => (pg_tup rfl (pgs_cons (pg_name (i := 5) sc_determinant_of.nd rfl (by first | exact .inl rfl | exact .inr rfl)) (pgs_cons (pg_name (i := 6) sc_determinant_of.nd rfl (by first | exact .inl rfl | exact .inr rfl)) pgs_nil)))) (fun _ _ _ _ _ => (pts_one (pt_cmpR op_ne (pv 5) (pv 3) (nomark _)))) (fun _ _ _ _ _ => (pe_c (cal_cleared T hN hT) hr (by decide) (by rfl) (pa_cons (pv 4) (pa_cons (pv 6) (pa_cons (pv 2) pa_nil))))))
      (pss_one (ps_set (i := 2) sc_determinant_of.nd rfl (by first | exact .inl rfl | exact .inr rfl) (pe_ix (ixS K rfl) (pv 4) pe_int (fun _ _ => rfl))))))))))
      (pss_one (ps_ret (pe_op op_mulX (pv 1) (pv 2))))))), ?_⟩
    -- sign = 1; last = 1; while len(rows) > 0
    refine ⟨fun j σ H2 => ∃ v2 m2 s2 l2 B2 y3 y4 y5 y6, σ = [some v2, some (.int s2), some (.int l2), y3, y4, y5, y6] ∧ Same H H2 ∧ IRows K H2 v2 m2 ∧ Sq j B2 m2 ∧ j ≤ 5 ∧ (B2 + 1) * 2 ^ j ≤ 60000000 ∧ l2 ≠ 0 ∧ l2.natAbs < 2 ^ 60000000 ∧ s2.natAbs ≤ 1 ∧ bare j s2 l2 m2 = bare n 1 1 m,
      ⟨n, v, m, 1, 1, B, none, none, none, none, rfl, Same.refl H, hm, hsq, hn, ?_, by decide, ?_, by decide, rfl⟩, ?_⟩
    · have : 2 ^ n ≤ 2 ^ 5 := Nat.pow_le_pow_right (by decide) hn
      have e5 : (2 : Nat) ^ 5 = 32 := rfl
      have := Nat.mul_le_mul (show B + 1 ≤ 1200001 by omega) this
      omega
    · exact Nat.lt_of_lt_of_le (by decide : (1 : Int).natAbs < 2 ^ 1) (Nat.pow_le_pow_right (by decide) (by decide))
    · rintro j σ H2 ⟨v2, m2, s2, l2, B2, y3, y4, y5, y6, rfl, sm, hm2, sq2, hj, hB2, hl0, hlb, hs1, eb⟩
      obtain ⟨a2, ws, rfl, hs2, hp2⟩ := id hm2
      have lw := Paired.length hp2
      have lm := sq2.len
      refine ⟨_, rfl, a2, ws, rfl, hs2, _, _, rfl, rfl, _, rfl, ?_⟩
      cases j with
      | zero =>
        rw [decide_eq_false (by rw [lw, lm]; decide)]
        refine iteF ?_
        -- return sign * last
        refine ⟨_, rfl, _, rfl, _, _, rfl, rfl, ?_, ?_⟩
        · have h1 : s2.natAbs < 2 ^ 1 := by omega
          exact mulx_ok h1 hlb (by decide)
        · show Q (.int (s2 * l2)) H2
          rw [show s2 * l2 = bare n 1 1 m from eb]
          exact q _ sm
      | succ j =>
        rw [decide_eq_true (by rw [lw, lm]; omega)]
        refine iteT ?_
        refine ⟨fun σ' H' => ∃ v2 m2 s2 l2 B2 y3 y4 y5 y6, σ' = [some v2, some (.int s2), some (.int l2), y3, y4, y5, y6] ∧ Same H H' ∧ IRows K H' v2 m2 ∧ Sq j B2 m2 ∧ j ≤ 5 ∧ (B2 + 1) * 2 ^ j ≤ 60000000 ∧ l2 ≠ 0 ∧ l2.natAbs < 2 ^ 60000000 ∧ s2.natAbs ≤ 1 ∧ bare j s2 l2 m2 = bare n 1 1 m, fun σ' H' h => ⟨j, Nat.lt_succ_self _, h⟩, ?_⟩
        -- at = first_with_head(rows)
        refine ⟨_, rfl, _, m2, rfl, hm2, by omega, fun r hr e => ?_, fun H3 s3 => ?_⟩
        · have := sq2.row r hr
          rw [e] at this
          cases this
        have eb' : bare (j + 1) s2 l2 m2 = match firstHead m2 0 with
            | none => 0
            | some k => bare j (if k % 2 = 1 then -s2 else s2) ((m2.getD k []).headD 0) ((m2.eraseIdx k).map fun r => clr (m2.getD k []) r l2) := rfl
        rw [eb'] at eb
        cases ef : firstHead m2 0 with
        | none =>
          rw [ef] at eb
          refine ⟨_, rfl, rfl, _, rfl, ?_⟩
          rw [show decide (optV none = V.non) = true from decide_eq_true rfl]
          refine iteT ?_
          show Q (.int 0) H3
          rw [show (0 : Int) = bare n 1 1 m from eb]
          exact q _ (sm.trans s3)
        | some k =>
          rw [ef] at eb
          obtain ⟨_, hk, hh⟩ := firstHead_some ef
          rw [Nat.zero_add, lm] at hk
          rw [Nat.sub_zero] at hh
          have hk' : k < m2.length := by omega
          have eg : m2[k]? = some (m2.getD k []) := by rw [List.getD_eq_getElem?_getD, List.getElem?_eq_getElem hk']; rfl
          have hmk : m2.getD k [] ∈ m2 := List.mem_of_getElem? eg
          refine ⟨_, rfl, rfl, _, rfl, ?_⟩
          rw [show decide (optV (some k) = V.non) = false from decide_eq_false fun z => by cases z]
          refine iteF ?_
          -- if at & 1: sign = -sign
          refine ⟨fun σ' H' => H' = H3 ∧ σ' = [some (.ref a2), some (.int (if k % 2 = 1 then -s2 else s2)), some (.int l2), some (.int k), y4, y5, y6], ?_, ?_⟩
          · refine ⟨_, rfl, k, rfl, rfl, _, rfl, ?_⟩
            by_cases hk2 : k % 2 = 1
            · rw [show (((k % 2 : Nat) : Int) != 0) = true by rw [hk2]; rfl]
              refine iteT ?_
              refine ⟨_, rfl, _, rfl, rfl, ?_⟩
              rw [if_pos hk2]
              rfl
            · rw [show (((k % 2 : Nat) : Int) != 0) = false by rw [show k % 2 = 0 by omega]; rfl]
              refine iteF ?_
              refine ⟨rfl, ?_⟩
              rw [if_neg hk2]
              rfl
          · rintro σ' H' ⟨rfl, rfl⟩
            have hs3 := hs2.same s3
            have hm3 := hm2.same s3
            obtain ⟨_, ws3, e3, _, hp3⟩ := id hm3
            -- top = rows[at]
            obtain ⟨vt, et, hvt⟩ := Paired.getR (Paired.swap (L2.Paired.mapP hp2 fun _ _ => IRow.same s3)) eg
            refine ⟨_, rfl, _, rfl, ?_⟩
            refine rIx_seq hs3 (atI_nat (j := k) et) ?_
            -- rows = [cleared(top, row, last) for k, row in enumerate(rows) if k != at]
            refine ⟨_, rfl, a2, ws, rfl, hs3, fun J G W hG D hD => ?_⟩
            refine lc_gen W hD (by omega) (fun H4 s4 => hG H4 fun b _ o => s4 b o) (fun i => decide (i ≠ k)) (fun i v H4 => ∃ p, v = .ref p ∧ p ≠ D ∧ H4 p = some (.lst ((clr (m2.getD k []) (m2.getD i []) l2).map V.int))) ?_ ?_ ?_
            · rintro i v H4 H5 acc _ off ⟨p, rfl, hp, e⟩
              exact ⟨p, rfl, hp, off p _ hp e⟩
            · rintro i x H4 H4' acc Ko Kn hi s4 eD ⟨U, x1, x2, rfl, nU, rfl, e1, e2⟩ kk kn
              cases e1
              have sU : Same H4 (upd H4 U (.tup [.int (i : Nat), x2])) := same_upd nU
              obtain ⟨r, er, hr2⟩ := Paired.getR (L2.Paired.mapP hp2 fun _ _ => IRow.same (s3.trans (s4.trans sU))) e2
              have egr : m2.getD i [] = r := by rw [List.getD_eq_getElem?_getD, er]; rfl
              refine g_pair nU ⟨rfl, ?_⟩
              refine ⟨_, rfl, _, rfl, rfl, _, rfl, ?_⟩
              by_cases hik : i = k
              · subst hik
                rw [decide_eq_true rfl]
                refine iteF ?_
                exact kn (by simp) _ sU
              · have hik' : ¬ ((i : Int) = (k : Int)) := by omega
                rw [decide_eq_false fun z => hik' (V.int.inj z)]
                refine iteT ?_
                have hrm : r ∈ m2 := List.mem_of_getElem? er
                refine ⟨_, rfl, _, rfl, _, rfl, vt, x2, m2.getD k [], r, l2, B2, rfl, hvt.same (s4.trans sU), hr2, ?_, ?_, ?_, hl0, sq2.bits _ hmk, sq2.bits _ hrm, ?_, fun H5 p s5 np ep => ?_⟩
                · rw [sq2.row _ hmk, sq2.row _ hrm]
                · rw [sq2.row _ hmk]
                  exact Nat.succ_pos _
                · rw [sq2.row _ hmk]
                  omega
                · have : 1 ≤ 2 ^ (j + 1) := Nat.one_le_two_pow
                  have := Nat.mul_le_mul (Nat.le_refl (B2 + 1)) this
                  omega
                · refine kk (by simpa using hik) _ H5 (sU.trans s5) ⟨p, rfl, ?_, ?_⟩
                  · rintro rfl
                    rw [sU _ _ eD] at np
                    cases np
                  · rw [egr]
                    exact ep
            · intro H4 l s4 eD hpl
              rw [filter_ne_range] at hpl
              have hnew : IRows K H4 (.ref D) ((m2.eraseIdx k).map fun r => clr (m2.getD k []) r l2) := by
                refine ⟨D, l, rfl, .inl (.inl (.inl eD)), ?_⟩
                rw [erase_map_range, ← lw]
                refine paired_map (f := fun i => clr (m2.getD k []) (m2.getD i []) l2) (L2.Paired.mapP hpl fun i v h => ?_)
                obtain ⟨p, rfl, _, e⟩ := h
                exact ⟨p, rfl, .inl (.inl (.inl e))⟩
              -- last = top[0]
              have et0 : ∃ at_, vt = .ref at_ ∧ Gm.Seq K H4 at_ ((m2.getD k []).map V.int) := by
                obtain ⟨q1, q2, q3⟩ := hvt.same s4
                exact ⟨q1, q2, q3⟩
              obtain ⟨at_, rfl, hat⟩ := et0
              refine ⟨_, rfl, ?_⟩
              refine rIx_seq hat (v := .int ((m2.getD k []).headD 0)) ?_ ?_
              · cases ez : m2.getD k [] with
                | nil =>
                  have := sq2.row _ hmk
                  rw [ez] at this
                  cases this
                | cons z r' => exact atI_nat (j := 0) rfl
              · refine ⟨_, _, _, _, 2 * B2 + 1, _, _, _, _, rfl, sm.trans (s3.trans s4), hnew, Sq.next sq2 hk l2, by omega, ?_, hh, ?_, ?_, eb⟩
                · have e2 : (2 * B2 + 1 + 1) * 2 ^ j = (B2 + 1) * 2 ^ (j + 1) := by
                    rw [Nat.pow_succ, show 2 * B2 + 1 + 1 = (B2 + 1) * 2 by omega, Nat.mul_assoc, Nat.mul_comm 2 (2 ^ j)]
                  omega
                · have hb := sq2.bits _ hmk
                  have hB60 : B2 ≤ 60000000 := by
                    have : 1 ≤ 2 ^ (j + 1) := Nat.one_le_two_pow
                    have := Nat.mul_le_mul (Nat.le_refl (B2 + 1)) this
                    omega
                  refine Nat.lt_of_lt_of_le ?_ (Nat.pow_le_pow_right (by decide) hB60)
                  cases ez : m2.getD k [] with
                  | nil =>
                    have := sq2.row _ hmk
                    rw [ez] at this
                    cases this
                  | cons z r' =>
                    rw [ez] at hb
                    exact hb z (List.mem_cons_self ..)
                · by_cases hk2 : k % 2 = 1
                  · rw [if_pos hk2]
                    omega
                  · rw [if_neg hk2]
                    exact hs1
theorem cal_determinant_of (T : Top K mg) (hN : base.NoSeer) (hT : P.given.tree = none) : Cal P w K mg base 42 "determinant_of" (sp_determinant_of K) [] := ⟨⟨_, _, _, [], ok_determinant_of T hN hT, T.g_determinant_of, T.F_determinant_of.kp, T.b_determinant_of, .nil⟩⟩

end
end K50
namespace K50
open PySem PySem.Spec PyProof.Rows L2 Gm
open C8 (Cal Met Mak pe_c pe_mt pe_mt0 pe_mk)
section
variable {P : Program} {w : World} {K : PySem.W.Frag} {mg : Str → Option Value} {base : Heap}
/-! ### grids -/
theorem rw_ne : ¬ (("rows" : Str) = "width") := by decide +kernel
def flds (t : V) (w : Nat) : List (Str × V) := putF "width" (.int w) (putF "rows" t [])
theorem flds_rows (t : V) (w : Nat) : (flds t w).lookup ("rows" : Str) = some t := by
  unfold flds
  rw [lookup_putF, if_neg rw_ne, lookup_putF, if_pos rfl]
theorem flds_width (t : V) (w : Nat) : (flds t w).lookup ("width" : Str) = some (.int w) := by
  unfold flds
  rw [lookup_putF, if_pos rfl]
theorem flds_no (t : V) (w : Nat) {m : Str} (h1 : ¬ m = "width") (h2 : ¬ m = "rows") : (flds t w).lookup m = none := by
  unfold flds
  rw [lookup_putF, if_neg h1, lookup_putF, if_neg h2]
  all_goals rfl
/-- a Grid with the rows m, of width w -/
structure IsGrid (K : PySem.W.Frag) (C : Addr) (H : Hp) (v : V) (m : List (List Int)) (w : Nat) : Prop where
  ob : ∃ p dx t, v = .ref p ∧ H p = some (.ins C dx (flds t w)) ∧ TRows K H t m
  wd : ∀ r ∈ m, r.length = w
theorem IsGrid.same {K : PySem.W.Frag} {C : Addr} {H H' : Hp} {v : V} {m : List (List Int)} {w : Nat} (e : Same H H') (h : IsGrid K C H v m w) : IsGrid K C H' v m w :=
  let ⟨p, dx, t, ev, ho, ht⟩ := h.ob
  ⟨⟨p, dx, t, ev, e _ _ ho, ht.same e⟩, h.wd⟩
/-! ### checked_rows -/
theorem seq_ty {K : PySem.W.Frag} {H : Hp} {a : Addr} {xs : List V} (h : Gm.Seq K H a xs) : ∃ n, (n = "list" ∨ n = "tuple") ∧ TyX K H (.ref a) (.type n) := by
  rcases h with h | h
  · refine ⟨"list", .inl rfl, ?_⟩
    rcases h with (h | ⟨o, h⟩) | ⟨o, its, n, h, c, _⟩
    · exact .base (.lst h)
    · exact .base (.frz h)
    · exact .kList h c
  · refine ⟨"tuple", .inr rfl, ?_⟩
    rcases h with (h | ⟨o, h⟩) | ⟨o, its, n, h, c, _⟩
    · exact .base (.tup h)
    · exact .fTuple h
    · exact .kTuple h c
theorem kit_lt {K : PySem.W.Frag} {n : String} (h : n = "list" ∨ n = "tuple") : PySem.W.kitAny K (.type n) [.type "list", .type "tuple"] = some true := by
  rcases h with rfl | rfl
  · exact kitAny_cons (b := true) (kit_ty (by decide +kernel)) (fun e => by cases e) fun _ => rfl
  · exact kitAny_cons (b := false) (kit_ty (by decide +kernel)) (fun _ => kitAny_cons (b := true) (kit_ty (by decide +kernel)) (fun e => by cases e) fun _ => rfl) fun e => by cases e
def sp_checked_rows (K : PySem.W.Frag) : Sp := fun vs H Q _ => ∃ v m, vs = [v] ∧ IRows K H v m ∧ m.length ≤ 1000 ∧ (∀ r ∈ m, r.length ≤ 1000) ∧ ∀ v' H', Same H H' → TRows K H' v' m → Q v' H'
theorem ok_checked_rows (T : Top K mg) (hN : base.NoSeer) (hT : P.given.tree = none) : FnOk P w K mg base CX0 2 T.a_checked_rows T.d_checked_rows ["rows"] (sp_checked_rows K) := by
  refine T.F_checked_rows.ok sc_checked_rows (fun vs H Q E h => ?_) (fun cdv A outer s H vs Q E hr h => ?_)
  · obtain ⟨v, m, rfl, _⟩ := h
    rfl
  · obtain ⟨v, m, rfl, hm, hl, hw, q⟩ := h
    obtain ⟨a, ws, rfl, hs, hp⟩ := id hm
    have lw := Paired.length hp
    refine ⟨_, (pss_cons (ps_if (pt_not (pt_val (pe_callB (isiTK K rfl) (by rfl) T.z_isinstance (by decide +kernel) (pa_cons (pv 0) (pa_cons (pe_tup (pa_cons (pe_bltn (v := .ty "list") (by rfl) T.z_list (by decide +kernel) rfl) (pa_cons (pe_bltn (v := .ty "tuple") (by rfl) T.z_tuple (by decide +kernel) rfl) pa_nil))) pa_nil)))))
      (pss_one ps_never)
      pss_nil)
      (pss_cons (ps_for PassesOwn.never rfl (piS K rfl (pv 0)) (pg_name (i := 1) sc_checked_rows.nd rfl (by first | exact .inl rfl | exact .inr rfl))
      (pss_cons (ps_if (pt_not (pt_val (pe_callB (isiTK K rfl) (by rfl) T.z_isinstance (by decide +kernel) (pa_cons (pv 1) (pa_cons (pe_tup (pa_cons (pe_bltn (v := .ty "list") (by rfl) T.z_list (by decide +kernel) rfl) (pa_cons (pe_bltn (v := .ty "tuple") (by rfl) T.z_tuple (by decide +kernel) rfl) pa_nil))) pa_nil)))))
      (pss_one ps_never)
      pss_nil)
      (pss_one (ps_if (pt_not (pt_val (pe_callB (allK K rfl rfl) (by rfl) T.z_all (by decide +kernel) (pa_cons (pe_lc (own := [("item", 2)]) (g := (gName 2)) (by rfl) sc_checked_rows.nd (piS K rfl (pv 1)) ((by show BlkOk ["rows", "row", "item"] (defScope s_checked_rows) _ _; exact blkOk_by (by decide +kernel))) (fun _ _ _ _ _ => (pg_name (i := 2) sc_checked_rows.nd rfl (by first | exact .inl rfl | exact .inr rfl))) (fun _ _ _ _ _ => pts_nil) (fun _ _ _ _ _ => (pe_c (cal_is_integer T hN hT) hr (by decide) (by rfl) (pa_cons (pv 2) pa_nil)))) pa_nil))))
      (pss_one ps_never)
      pss_nil))))
      (pss_one (ps_ret (pe_callTy (tupK K rfl) (by rfl) T.z_tuple (by decide +kernel) (pa_cons (pe_lc (own := [("row", 1)]) (g := (gName 1)) (by rfl) sc_checked_rows.nd (piS K rfl (pv 0)) ((by show BlkOk ["rows", "row", "item"] (defScope s_checked_rows) _ _; exact blkOk_by (by decide +kernel))) (fun _ _ _ _ _ => (pg_name (i := 1) sc_checked_rows.nd rfl (by first | exact .inl rfl | exact .inr rfl))) (fun _ _ _ _ _ => pts_nil) (fun _ _ _ _ _ => (pe_callTy (tupK K rfl) (by rfl) T.z_tuple (by decide +kernel) (pa_cons (pv 1) pa_nil)))) pa_nil)))))), ?_⟩
    -- if not isinstance(rows, (list, tuple))
    refine ⟨_, rfl, by show 2 ≤ sizeLine; decide, fun p np => ?_⟩
    have s1 : Same H (upd H p (.tup [.ty "list", .ty "tuple"])) := same_upd np
    obtain ⟨n, hn, ty⟩ := seq_ty (hs.same s1)
    refine ⟨.ref a, p, [.ty "list", .ty "tuple"], _, [.type "list", .type "tuple"], true, rfl, upd_same, .cons (.ty _) (.cons (.ty _) .nil), ty, kit_lt hn, true, rfl, ?_⟩
    refine iteF ?_
    -- for row in rows
    refine ⟨_, rfl, a, ws, rfl, hs.same s1, fun J G W hG => ?_⟩
    generalize hH1 : upd H p (.tup [.ty "list", .ty "tuple"]) = H1 at s1 hG
    refine for_it W (fun i σ H2 => ∃ y1 y2, σ = [some (.ref a), y1, y2] ∧ Same H1 H2) ⟨none, none, rfl, Same.refl _⟩ (fun i σ H2 _ ⟨_, _, _, s2⟩ => hG _ fun b _ o => s2 b o) ?_ ?_
    · rintro i x σ H2 H2' hi ⟨y1, y2, rfl, s2⟩ ⟨rfl, ex⟩
      obtain ⟨r, er, b, rfl, hb⟩ := Paired.getR hp ex
      have hrm : r ∈ m := List.mem_of_getElem? er
      -- if not isinstance(row, (list, tuple))
      refine ⟨_, rfl, by show 2 ≤ sizeLine; decide, fun p2 np2 => ?_⟩
      have s3 : Same H2' (upd H2' p2 (.tup [.ty "list", .ty "tuple"])) := same_upd np2
      have hb3 := hb.same (s1.trans (s2.trans s3))
      obtain ⟨n2, hn2, ty2⟩ := seq_ty hb3
      refine ⟨.ref b, p2, [.ty "list", .ty "tuple"], _, [.type "list", .type "tuple"], true, rfl, upd_same, .cons (.ty _) (.cons (.ty _) .nil), ty2, kit_lt hn2, true, rfl, ?_⟩
      refine iteF ?_
      -- if not all([is_integer(item) for item in row])
      refine ⟨_, rfl, b, _, rfl, hb3, fun J2 G2 W2 hG2 D hD => ?_⟩
      refine lc_all W2 hD (by rw [List.length_map]; exact hw _ hrm) (fun H4 s4 => hG2 H4 fun b _ o => s4 b o) (fun _ v _ => v = .bl true) (fun _ _ _ _ _ _ _ h => h) ?_ gm_name ?_
      · rintro j y H4 H4' acc Ko hj s4 eD ⟨rfl, ey⟩ k
        obtain ⟨z, ez, rfl⟩ := ints_get ey
        refine ⟨rfl, ?_⟩
        exact ⟨_, rfl, z, rfl, k _ _ (Same.refl _) rfl⟩
      · intro H4 l s4 eD hl2
        refine ⟨D, List.replicate l.length true, rfl, .inl (.inl (by rw [← paired_true hl2]; exact eD)), true, by rw [all_true], ?_⟩
        refine iteF ?_
        exact ⟨_, _, rfl, s2.trans (s3.trans s4)⟩
    · rintro σ H2 ⟨y1, y2, rfl, s2⟩
      have sm := s1.trans s2
      -- return tuple([tuple(row) for row in rows])
      refine ⟨_, rfl, a, ws, rfl, hs.same sm, fun J2 G2 W2 hG2 D hD => ?_⟩
      refine lc_all W2 hD (by omega) (fun H4 s4 => hG2 H4 fun b _ o => s4 b o) (fun i v H4 => ∃ r, m[i]? = some r ∧ TRow K H4 v r) (fun i v H4 H5 acc e o ⟨r, er, h⟩ => ⟨r, er, TRow.off e o h⟩) ?_ gm_name ?_
      · rintro i x H4 H4' acc Ko hi s4 eD ⟨rfl, ex⟩ k
        obtain ⟨r, er, b, rfl, hb⟩ := Paired.getR hp ex
        refine ⟨rfl, ?_⟩
        refine ⟨_, rfl, b, r.map V.int, rfl, ?_⟩
        rcases hb.same (sm.trans s4) with hb' | hb'
        · refine .inl ⟨hb', fun t nt => ?_⟩
          exact k _ _ (same_upd nt) ⟨r, er, t, rfl, .inl (.inl upd_same)⟩
        · refine .inr ⟨hb', ?_⟩
          exact k _ _ (Same.refl _) ⟨r, er, b, rfl, hb'⟩
      · intro H4 l s4 eD hpl
        refine ⟨D, l, rfl, .inl ⟨.inl (.inl eD), fun t nt => ?_⟩⟩
        refine q _ _ (sm.trans (s4.trans (same_upd nt))) ⟨t, l, rfl, .inl (.inl upd_same), ?_⟩
        exact L2.Paired.mapP (paired_at (m := m) (by omega) hpl) fun _ _ => TRow.same (same_upd nt)
theorem cal_checked_rows (T : Top K mg) (hN : base.NoSeer) (hT : P.given.tree = none) : Cal P w K mg base 2 "checked_rows" (sp_checked_rows K) [] := ⟨⟨_, _, _, [], ok_checked_rows T hN hT, T.g_checked_rows, T.F_checked_rows.kp, T.b_checked_rows, .nil⟩⟩
/-! ### checked_width -/
def sp_checked_width (K : PySem.W.Frag) : Sp := fun vs H Q _ => ∃ (v : V) (m : List (List Int)) (w : Nat), vs = [v, .int w] ∧ TRows K H v m ∧ m.length ≤ 1000 ∧ (∀ r ∈ m, r.length = w) ∧ ∀ H', Same H H' → Q (.int w) H'
theorem ok_checked_width (T : Top K mg) (hN : base.NoSeer) (hT : P.given.tree = none) : FnOk P w K mg base CX0 2 T.a_checked_width T.d_checked_width ["rows", "width"] (sp_checked_width K) := by
  refine T.F_checked_width.ok sc_checked_width (fun vs H Q E h => ?_) (fun cdv A outer s H vs Q E hr h => ?_)
  · obtain ⟨v, m, w, rfl, _⟩ := h
    rfl
  · obtain ⟨v, m, w, rfl, hm, hl, hw, q⟩ := h
    obtain ⟨a, ws, rfl, hs, hp⟩ := id hm
    have lw := Paired.length hp
    refine ⟨_, (pss_cons (ps_if (pt_cmpR op_isN (pv 1) pe_non (nomark _))
      (pss_one (ps_set (i := 1) sc_checked_width.nd rfl (by first | exact .inl rfl | exact .inr rfl) (pe_ifExp (pt_cmpR op_gt (pe_callB (lenS K rfl) (by rfl) T.z_len (by decide +kernel) (pa_cons (pv 0) pa_nil)) pe_int (nomark _)) (pe_callB (lenS K rfl) (by rfl) T.z_len (by decide +kernel) (pa_cons (pe_ix (ixT K rfl) (pv 0) pe_int (fun _ _ => rfl)) pa_nil)) pe_int)))
      pss_nil)
      (pss_cons (ps_if (PW.pt (pw_or (pt_not (pt_val (pe_c (cal_is_integer T hN hT) hr (by decide) (by rfl) (pa_cons (pv 1) pa_nil)))) (pw_or1 (pt_cmpR op_lt (pv 1) pe_int (nomark _)))))
      (pss_one ps_never)
      pss_nil)
      (pss_cons (ps_if (pt_not (pt_val (pe_callB (allK K rfl rfl) (by rfl) T.z_all (by decide +kernel) (pa_cons (pe_lc (own := [("row", 2)]) (g := (gName 2)) (by rfl) sc_checked_width.nd (piS K rfl (pv 0)) ((by show BlkOk ["rows", "width", "row"] (defScope s_checked_width) _ _; exact blkOk_by (by decide +kernel))) (fun _ _ _ _ _ => (pg_name (i := 2) sc_checked_width.nd rfl (by first | exact .inl rfl | exact .inr rfl))) (fun _ _ _ _ _ => pts_nil) (fun _ _ _ _ _ => (pe_cmpR op_eq (pe_callB (lenS K rfl) (by rfl) T.z_len (by decide +kernel) (pa_cons (pv 2) pa_nil)) (pv 1) (nomark _)))) pa_nil))))
      (pss_one ps_never)
      pss_nil)
      (pss_one (ps_ret (pv 1)))))), ?_⟩
    -- if width is None
    refine ⟨_, rfl, rfl, _, rfl, ?_⟩
    rw [show decide (V.int (w : Int) = V.non) = false from decide_eq_false fun z => by cases z]
    refine iteF ?_
    -- if not is_integer(width) or width < 0
    refine ⟨_, rfl, _, rfl, true, rfl, iteF ⟨_, rfl, _, _, rfl, rfl, _, rfl, ?_⟩⟩
    rw [decide_eq_false (by omega)]
    refine iteF ?_
    -- if not all([len(row) == width for row in rows])
    refine ⟨_, rfl, a, ws, rfl, .inr hs, fun J2 G2 W2 hG2 D hD => ?_⟩
    refine lc_all W2 hD (by omega) (fun H4 s4 => hG2 H4 fun b _ o => s4 b o) (fun _ v _ => v = .bl true) (fun _ _ _ _ _ _ _ h => h) ?_ gm_name ?_
    · rintro i x H4 H4' acc Ko hi s4 eD ⟨rfl, ex⟩ k
      obtain ⟨r, er, b, rfl, hb⟩ := Paired.getR hp ex
      refine ⟨rfl, ?_⟩
      refine ⟨_, rfl, b, _, rfl, .inr (Same.seqT s4 hb), _, rfl, rfl, ?_⟩
      rw [List.length_map, hw r (List.mem_of_getElem? er), decide_eq_true rfl]
      exact k _ _ (Same.refl _) rfl
    · intro H4 l s4 eD hl2
      refine ⟨D, List.replicate l.length true, rfl, .inl (.inl (by rw [← paired_true hl2]; exact eD)), true, by rw [all_true], ?_⟩
      refine iteF ?_
      exact ⟨_, rfl, q _ s4⟩
theorem cal_checked_width (T : Top K mg) (hN : base.NoSeer) (hT : P.given.tree = none) : Cal P w K mg base 2 "checked_width" (sp_checked_width K) [] := ⟨⟨_, _, _, [], ok_checked_width T hN hT, T.g_checked_width, T.F_checked_width.kp, T.b_checked_width, .nil⟩⟩
/-! ### Grid.__init__ -/
def sp_Grid_init (K : PySem.W.Frag) (C : Addr) : Sp := fun vs H Q _ => ∃ (p dx : Addr) (v : V) (m : List (List Int)) (w : Nat), vs = [.ref p, v, .int w] ∧ H p = some (.ins C dx []) ∧ IRows K H v m ∧ m.length ≤ 1000 ∧ w ≤ 1000 ∧ (∀ r ∈ m, r.length = w) ∧
  ∀ t H', Off p H H' → H' p = some (.ins C dx (flds t w)) → TRows K H' t m → Q .non H'
theorem trows_off {K : PySem.W.Frag} {H H' : Hp} {p C dx : Addr} {fs : List (Str × V)} {t : V} {m : List (List Int)} (e : H p = some (.ins C dx fs)) (o : Off p H H') (h : TRows K H t m) : TRows K H' t m := by
  have f : ∀ {a : Addr} {xs : List V}, SqT K H a xs → SqT K H' a xs := fun {a xs} h => by
    rcases h with (h | ⟨u, h⟩) | h
    · exact .inl (.inl (o _ _ (ne_of h e (by intro z; cases z)) h))
    · exact .inl (.inr ⟨u, o _ _ (ne_of h e (by intro z; cases z)) h⟩)
    · exact .inr h
  obtain ⟨a, vs, rfl, hs, hp⟩ := h
  exact ⟨a, vs, rfl, f hs, L2.Paired.mapP hp fun v r ⟨b, e, h⟩ => ⟨b, e, f h⟩⟩
theorem ok_Grid_init (T : Top K mg) (hN : base.NoSeer) (hT : P.given.tree = none) : FnOk P w K mg base CX0 3 T.a_Grid_init T.d_Grid_init ["self", "rows", "width"] (sp_Grid_init K T.C_Grid) := by
  refine T.F_Grid_init.ok sc_Grid_init (fun vs H Q E h => ?_) (fun cdv A outer s H vs Q E hr h => ?_)
  · obtain ⟨p, dx, v, m, w, rfl, _⟩ := h
    rfl
  · obtain ⟨p, dx, v, m, w, rfl, hp, hm, hl, hw, hrw, q⟩ := h
    refine ⟨_, PSs.nox (pss_cons (ps_fld (pv 0) (pe_c (cal_checked_rows T hN hT) hr (by decide) (by rfl) (pa_cons (pv 1) pa_nil)) rfl)
      (pss_one (ps_fld (pv 0) (pe_c (cal_checked_width T hN hT) hr (by decide) (by rfl) (pa_cons (fldK K rfl (pv 0) rfl) (pa_cons (pv 2) pa_nil))) rfl))), ?_⟩
    refine ⟨_, rfl, v, m, rfl, hm, hl, fun r hr => by rw [hrw r hr]; exact hw, fun t H1 s1 ht => ?_⟩
    have hp1 := s1 _ _ hp
    refine ⟨_, rfl, p, T.C_Grid, dx, [], rfl, hp1, T.cl_Grid, T.n_rows, by show 0 < 1000; decide, ?_⟩
    refine ⟨_, rfl, p, T.C_Grid, dx, _, t, rfl, upd_same, T.cl_Grid, T.n_rows, ?_, ?_⟩
    · rw [lookup_putF, if_pos rfl]
    have ht2 : TRows K (upd H1 p (.ins T.C_Grid dx (putF "rows" t []))) t m := trows_off hp1 Off.upd ht
    refine ⟨_, rfl, t, m, w, rfl, ht2, hl, hrw, fun H2 s2 => ?_⟩
    have hp2 := s2 _ _ upd_same
    refine ⟨_, rfl, p, T.C_Grid, dx, _, rfl, hp2, T.cl_Grid, T.n_width, by show 1 < 1000; decide, ?_⟩
    refine q t _ (fun b o n e => ?_) upd_same (trows_off hp2 Off.upd (ht2.same s2))
    rw [upd_ne n]
    exact s2 _ _ (Off.upd _ _ n (s1 _ _ e))
theorem mak_Grid (T : Top K mg) (hN : base.NoSeer) (hT : P.given.tree = none) : Mak P w K mg base 3 "Grid" T.C_Grid (sp_Grid_init K T.C_Grid) [] := ⟨⟨_, _, _, [], T.mk_Grid, ok_Grid_init T hN hT, T.g_Grid, T.b_Grid_init, .nil⟩⟩
/-- what a call Grid(rows, width) asks and gives -/
theorem make_grid {K : PySem.W.Frag} {C : Addr} {H1 : Hp} {v : V} {m : List (List Int)} {w : Nat} {Q : VK} {E : XK} (hm : IRows K H1 v m) (hl : m.length ≤ 1000) (hw : w ≤ 1000) (hrw : ∀ r ∈ m, r.length = w) (q : ∀ g H', Same H1 H' → IsGrid K C H' g m w → Q g H') :
    ∀ x dx, H1 x = none → H1 dx = none → dx ≠ x → sp_Grid_init K C (.ref x :: ([v, .int w] ++ [])) (upd (upd H1 dx (.own x)) x (.ins C dx [])) (fun v H2 => v = .non ∧ Q (.ref x) H2) E := fun x dx nx nd ne => by
  have s0 : Same H1 (upd (upd H1 dx (.own x)) x (.ins C dx [])) := fun b o e => by
    rw [upd_ne (ne_of_none e nx), upd_ne (ne_of_none e nd)]
    exact e
  refine ⟨x, dx, v, m, w, rfl, upd_same, hm.same s0, hl, hw, hrw, fun t H' o ho ht => ⟨rfl, ?_⟩⟩
  exact q _ _ (fun b u e => o _ _ (ne_of_none e nx) (s0 _ _ e)) ⟨⟨x, dx, t, rfl, ho, ht⟩, hrw⟩

end
end K50
namespace K50
open PySem PySem.Spec PyProof.Rows L2 Gm
open C8 (Cal Met Mak pe_c pe_mt pe_mt0 pe_mk)
section
variable {P : Program} {w : World} {K : PySem.W.Frag} {mg : Str → Option Value} {base : Heap}
/-! ### dot -/
def dotI (xs ys : List Int) : Int := (List.zipWith (· * ·) xs ys).sum
def sp_dot (K : PySem.W.Frag) : Sp := fun vs H Q _ => ∃ v1 v2 xs ys B1 B2, vs = [v1, v2] ∧ TRow K H v1 xs ∧ TRow K H v2 ys ∧ xs.length = ys.length ∧ xs.length ≤ 1000 ∧ Bits B1 xs ∧ Bits B2 ys ∧ B1 + B2 ≤ 134217728 ∧ ∀ H', Same H H' → Q (.int (dotI xs ys)) H'
def sp_Grid_len (K : PySem.W.Frag) (C : Addr) : Sp := fun vs H Q _ => ∃ v m w, vs = [v] ∧ IsGrid K C H v m w ∧ Q (.int m.length) H
def sp_Grid_is_square (K : PySem.W.Frag) (C : Addr) : Sp := fun vs H Q _ => ∃ v m w, vs = [v] ∧ IsGrid K C H v m w ∧ Q (.bl (decide (m.length = w))) H
theorem m_is_square (t : V) (w : Nat) : (flds t w).lookup ("is_square" : Str) = none := flds_no t w (by decide +kernel) (by decide +kernel)
theorem m_transposed (t : V) (w : Nat) : (flds t w).lookup ("transposed" : Str) = none := flds_no t w (by decide +kernel) (by decide +kernel)
theorem m_determinant (t : V) (w : Nat) : (flds t w).lookup ("determinant" : Str) = none := flds_no t w (by decide +kernel) (by decide +kernel)
theorem m_adjugate (t : V) (w : Nat) : (flds t w).lookup ("adjugate" : Str) = none := flds_no t w (by decide +kernel) (by decide +kernel)
theorem m_is_unimodular (t : V) (w : Nat) : (flds t w).lookup ("is_unimodular" : Str) = none := flds_no t w (by decide +kernel) (by decide +kernel)
def sp_check_square (K : PySem.W.Frag) (C : Addr) : Sp := fun vs H Q _ => ∃ v m w, vs = [v] ∧ IsGrid K C H v m w ∧ m.length = w ∧ Q .non H
def sp_Grid_determinant (K : PySem.W.Frag) (C : Addr) : Sp := fun vs H Q _ => ∃ v m n B, vs = [v] ∧ IsGrid K C H v m n ∧ Sq n B m ∧ n ≤ 5 ∧ B ≤ 1200000 ∧ ∀ H', Same H H' → Q (.int (bare n 1 1 m)) H'
def sp_Grid_is_unimodular (K : PySem.W.Frag) (C : Addr) : Sp := fun vs H Q _ => ∃ v m w, vs = [v] ∧ IsGrid K C H v m w ∧ ((m.length ≠ w ∧ ∀ H', Same H H' → Q (.bl false) H') ∨ ∃ B, Sq w B m ∧ w ≤ 5 ∧ B ≤ 1200000 ∧ ∀ H', Same H H' → Q (.bl (decide ((bare w 1 1 m).natAbs = 1))) H')

end
end K50
namespace K50
open PySem PySem.Spec PyProof.Rows L2 Gm
open C8 (Cal Met Mak pe_c pe_mt pe_mt0 pe_mk)
section
variable {P : Program} {w : World} {K : PySem.W.Frag} {mg : Str → Option Value} {base : Heap}
/-! ### transposed -/
def transp (m : List (List Int)) (w : Nat) : List (List Int) := (List.range w).map fun k => m.map fun r => r.getD k 0
theorem transp_len (m : List (List Int)) (w : Nat) : (transp m w).length = w := by
  unfold transp
  rw [List.length_map, List.length_range]
theorem transp_row {m : List (List Int)} {w : Nat} : ∀ r ∈ transp m w, r.length = m.length := fun r hr => by
  obtain ⟨k, _, rfl⟩ := List.mem_map.mp hr
  rw [List.length_map]
theorem transp_get {m : List (List Int)} {w k : Nat} (h : k < w) : (transp m w).getD k [] = m.map fun r => r.getD k 0 := by
  unfold transp
  rw [List.getD_eq_getElem?_getD, List.getElem?_map, List.getElem?_range h]
  rfl
def sp_Grid_transposed (K : PySem.W.Frag) (C : Addr) : Sp := fun vs H Q _ => ∃ v m w, vs = [v] ∧ IsGrid K C H v m w ∧ m.length ≤ 1000 ∧ w ≤ 1000 ∧ ∀ g H', Same H H' → IsGrid K C H' g (transp m w) m.length → Q g H'
theorem ok_Grid_transposed (T : Top K mg) (hN : base.NoSeer) (hT : P.given.tree = none) : FnOk P w K mg base CX0 5 T.a_Grid_transposed T.d_Grid_transposed ["self"] (sp_Grid_transposed K T.C_Grid) := by
  refine T.F_Grid_transposed.ok sc_Grid_transposed (fun vs H Q E h => ?_) (fun cdv A outer s H vs Q E hr h => ?_)
  · obtain ⟨v, m, w, rfl, _⟩ := h
    rfl
  · obtain ⟨v, m, n, rfl, G, hl, hw, q⟩ := h
    obtain ⟨⟨p, dx, t, rfl, ho, a, ws, rfl, hs, hp⟩, hrw⟩ := id G
    have lw := Paired.length hp
    refine ⟨_, (pss_cons (ps_set (i := 1) sc_Grid_transposed.nd rfl (by first | exact .inl rfl | exact .inr rfl) (pe_callTy (cr_range1) (by rfl) T.z_range (by decide +kernel) (pa_cons (fldK K rfl (pv 0) rfl) pa_nil)))
      (pss_one (ps_ret (pe_mk (mak_Grid T hN hT) hr (by decide) (by rfl) (pa_cons (pe_lc (own := [("k", 2)]) (g := (gName 2)) (by rfl) sc_Grid_transposed.nd (pi_rngv (pv 1)) ((by show BlkOk ["self", "places", "k", "row"] (defScope s_Grid_transposed) _ _; exact blkOk_by (by decide +kernel))) (fun _ _ _ _ _ => (pg_name (i := 2) sc_Grid_transposed.nd rfl (by first | exact .inl rfl | exact .inr rfl))) (fun _ _ _ _ _ => pts_nil) (fun _ _ _ _ _ => (pe_lc (own := [("row", 3)]) (g := (gName 3)) (by rfl) sc_Grid_transposed.nd (piS K rfl (fldK K rfl (pv 0) rfl)) ((by show BlkOk ["self", "places", "k", "row"] (relS _ (defScope s_Grid_transposed)) _ _; exact blkOk_by (by decide +kernel))) (fun _ _ _ _ _ => (pg_name (i := 3) sc_Grid_transposed.nd rfl (by first | exact .inl rfl | exact .inr rfl))) (fun _ _ _ _ _ => pts_nil) (fun _ _ _ _ _ => (pe_ix (ixT K rfl) (pv 3) (pv 2) (fun _ _ => rfl)))))) (pa_cons (pe_callB (lenS K rfl) (by rfl) T.z_len (by decide +kernel) (pa_cons (fldK K rfl (pv 0) rfl) pa_nil)) pa_nil)))))), ?_⟩
    -- places = range(self.width)
    refine ⟨_, rfl, p, T.C_Grid, dx, _, _, rfl, ho, T.cl_Grid, T.n_width, flds_width _ _, _, rfl, fun pr npr => ?_⟩
    have s1 : Same H (upd H pr (.rng 0 (n : Int))) := same_upd npr
    -- the outer comprehension
    refine ⟨_, rfl, pr, _, _, rfl, upd_same, ⟨by decide, by decide, by omega, by omega⟩, fun D hD => ?_⟩
    refine lc_all walk_range hD (by omega) (fun _ _ => trivial) (fun i v H4 => ∃ p, v = V.ref p ∧ p ≠ D ∧ H4 p = some (.lst (((transp m n).getD i []).map V.int))) lists_mono ?_ gm_name ?_
    · rintro i x H4 H4' acc Ko hi s4 eD ⟨rfl, rfl⟩ k
      have hi' : i < n := by omega
      refine ⟨rfl, ?_⟩
      -- the inner one
      have sm := s1.trans s4
      have ho4 := sm _ _ ho
      have hs4 := Same.seqT sm hs
      refine ⟨_, rfl, p, T.C_Grid, dx, _, _, rfl, ho4, T.cl_Grid, T.n_rows, flds_rows _ _, a, ws, rfl, .inr hs4, fun J2 G2 W2 hG2 D2 hD2 => ?_⟩
      refine lc_all W2 hD2 (by omega) (fun H5 s5 => hG2 H5 fun b _ o => s5 b o) (fun j v _ => ∃ z, ((transp m n).getD i [])[j]? = some z ∧ v = .int z) (fun _ _ _ _ _ _ _ h => h) ?_ gm_name ?_
      · rintro j y H5 H5' acc2 Ko2 hj s5 eD2 ⟨rfl, ey⟩ k2
        obtain ⟨r, er, b, rfl, hb⟩ := Paired.getR hp ey
        have hrl := hrw r (List.mem_of_getElem? er)
        refine ⟨rfl, ?_⟩
        refine ⟨_, rfl, _, rfl, b, _, _, _, rfl, rfl, Same.seqT (sm.trans s5) hb, at_of (j := i) (by omega) (ints_at (List.getElem?_eq_getElem (by omega))), ?_⟩
        refine k2 _ _ (Same.refl _) ⟨_, ?_, rfl⟩
        rw [transp_get hi', List.getElem?_map, er]
        show some (r.getD i 0) = some r[i]
        rw [List.getD_eq_getElem?_getD, List.getElem?_eq_getElem (by omega)]
        rfl
      · intro H5 l s5 eD2 hpl
        have el := ints_list (by rw [transp_get hi', List.length_map, lw]) hpl
        refine k _ _ s5 ⟨D2, rfl, ?_, by rw [← el]; exact eD2⟩
        rintro rfl
        rw [eD] at hD2
        cases hD2
    · intro H4 l s4 eD hpl
      have hrows := lists_rows (K := K) (m := transp m n) (by rw [transp_len]; omega) eD hpl
      have sm := s1.trans s4
      refine ⟨_, rfl, p, T.C_Grid, dx, _, _, rfl, sm _ _ ho, T.cl_Grid, T.n_rows, flds_rows _ _, a, ws, rfl, .inr (Same.seqT sm hs), ?_⟩
      rw [lw]
      exact make_grid hrows (by rw [transp_len]; exact hw) hl transp_row fun g H' s' G' => q g H' (sm.trans s') G'
theorem met_Grid_transposed (T : Top K mg) (hN : base.NoSeer) (hT : P.given.tree = none) : Met P w K mg base 5 T.C_Grid "transposed" (sp_Grid_transposed K T.C_Grid) [] := ⟨⟨_, _, _, [], T.cl_Grid, T.m_Grid_transposed, ok_Grid_transposed T hN hT, T.b_Grid_transposed, .nil⟩⟩
/-! ### a * b -/
def mulM (m1 m2 : List (List Int)) (w : Nat) : List (List Int) := m1.map fun r => (transp m2 w).map fun c => dotI r c
theorem mulM_len (m1 m2 : List (List Int)) (w : Nat) : (mulM m1 m2 w).length = m1.length := List.length_map ..
theorem mulM_row {m1 m2 : List (List Int)} {w : Nat} : ∀ r ∈ mulM m1 m2 w, r.length = w := fun r hr => by
  obtain ⟨k, _, rfl⟩ := List.mem_map.mp hr
  rw [List.length_map, transp_len]
theorem transp_bits {m : List (List Int)} {w B : Nat} (hw : ∀ r ∈ m, r.length = w) (hb : ∀ r ∈ m, Bits B r) : ∀ r ∈ transp m w, Bits B r := fun r hr x hx => by
  obtain ⟨k, hk, rfl⟩ := List.mem_map.mp hr
  obtain ⟨r', hr', rfl⟩ := List.mem_map.mp hx
  have hk' : k < r'.length := by rw [hw r' hr']; exact List.mem_range.mp hk
  rw [List.getD_eq_getElem?_getD, List.getElem?_eq_getElem hk']
  exact hb r' hr' _ (List.getElem_mem _)
def sp_Grid_mul (K : PySem.W.Frag) (C : Addr) : Sp := fun vs H Q _ => ∃ v1 m1 w1 v2 m2 w2 B1 B2, vs = [v1, v2] ∧ IsGrid K C H v1 m1 w1 ∧ IsGrid K C H v2 m2 w2 ∧ w1 = m2.length ∧ m1.length ≤ 1000 ∧ m2.length ≤ 1000 ∧ w2 ≤ 1000 ∧
  (∀ r ∈ m1, Bits B1 r) ∧ (∀ r ∈ m2, Bits B2 r) ∧ B1 + B2 ≤ 134217728 ∧ ∀ g H', Same H H' → IsGrid K C H' g (mulM m1 m2 w2) w2 → Q g H'
def cutM (m : List (List Int)) (i j : Nat) : List (List Int) := (m.eraseIdx i).map fun r => r.eraseIdx j
theorem cutM_sq {n B : Nat} {m : List (List Int)} (h : Sq (n + 1) B m) {i j : Nat} (hi : i < n + 1) (hj : j < n + 1) : Sq n B (cutM m i j) := by
  have hi' : i < m.length := by rw [h.len]; exact hi
  refine ⟨?_, fun r hr => ?_, fun r hr => ?_⟩
  · unfold cutM
    rw [List.length_map, List.length_eraseIdx_of_lt hi', h.len]
    rfl
  · obtain ⟨r', hr', rfl⟩ := List.mem_map.mp hr
    have h1 := h.row r' (List.mem_of_mem_eraseIdx hr')
    rw [List.length_eraseIdx_of_lt (by omega), h1]
    rfl
  · obtain ⟨r', hr', rfl⟩ := List.mem_map.mp hr
    exact fun x hx => h.bits r' (List.mem_of_mem_eraseIdx hr') x (List.mem_of_mem_eraseIdx hx)
theorem erase_eq (l : List Int) (j : Nat) : l.take j ++ l.drop (j + 1) = l.eraseIdx j := (List.eraseIdx_eq_take_drop_succ l j).symm
def sp_minor (K : PySem.W.Frag) : Sp := fun vs H Q _ => ∃ (v : V) (m : List (List Int)) (n B i j : Nat), vs = [v, .int i, .int j] ∧ TRows K H v m ∧ Sq (n + 1) B m ∧ n ≤ 5 ∧ i < n + 1 ∧ j < n + 1 ∧ B ≤ 1200000 ∧ ∀ H', Same H H' → Q (.int (bare n 1 1 (cutM m i j))) H'
def sminor (n : Nat) (m : List (List Int)) (i j : Nat) : Int := if (i + j) % 2 = 1 then -bare n 1 1 (cutM m i j) else bare n 1 1 (cutM m i j)
def sp_signed_minor (K : PySem.W.Frag) : Sp := fun vs H Q _ => ∃ (v : V) (m : List (List Int)) (n B i j : Nat), vs = [v, .int i, .int j] ∧ TRows K H v m ∧ Sq (n + 1) B m ∧ n ≤ 5 ∧ i < n + 1 ∧ j < n + 1 ∧ B ≤ 1200000 ∧ ∀ H', Same H H' → Q (.int (sminor n m i j)) H'
def adjM (n : Nat) (m : List (List Int)) : List (List Int) := (List.range m.length).map fun i => (List.range m.length).map fun j => sminor n m j i
theorem adjM_get {n i : Nat} {m : List (List Int)} (h : i < m.length) : (adjM n m).getD i [] = (List.range m.length).map fun j => sminor n m j i := by
  unfold adjM
  rw [List.getD_eq_getElem?_getD, List.getElem?_map, List.getElem?_range h]
  rfl
theorem adjM_len (n : Nat) (m : List (List Int)) : (adjM n m).length = m.length := by
  unfold adjM
  rw [List.length_map, List.length_range]
theorem adjM_row {n : Nat} {m : List (List Int)} : ∀ r ∈ adjM n m, r.length = m.length := fun r hr => by
  obtain ⟨k, _, rfl⟩ := List.mem_map.mp hr
  rw [List.length_map, List.length_range]
def sp_adjugate_of (K : PySem.W.Frag) : Sp := fun vs H Q _ => ∃ (v : V) (m : List (List Int)) (n B : Nat), vs = [v] ∧ TRows K H v m ∧ Sq n B m ∧ n ≤ 5 ∧ B ≤ 1200000 ∧ ∀ v' H', Same H H' → IRows K H' v' (adjM (n - 1) m) → Q v' H'
def sp_Grid_adjugate (K : PySem.W.Frag) (C : Addr) : Sp := fun vs H Q _ => ∃ v m n B, vs = [v] ∧ IsGrid K C H v m n ∧ Sq n B m ∧ n ≤ 5 ∧ B ≤ 1200000 ∧ ∀ g H', Same H H' → IsGrid K C H' g (adjM (n - 1) m) n → Q g H'

end
end K50
namespace K50
open PySem PySem.Spec PyProof.Rows L2 Gm
open C8 (Cal Met Mak pe_c pe_mt pe_mt0 pe_mk)
section
variable {P : Program} {w : World} {K : PySem.W.Frag} {mg : Str → Option Value} {base : Heap}
/-! ### scaled -/
def scaleM (k : Int) (m : List (List Int)) : List (List Int) := m.map fun r => r.map fun x => k * x
theorem scaleM_len (k : Int) (m : List (List Int)) : (scaleM k m).length = m.length := List.length_map ..
theorem scaleM_row {k : Int} {m : List (List Int)} {w : Nat} (h : ∀ r ∈ m, r.length = w) : ∀ r ∈ scaleM k m, r.length = w := fun r hr => by
  obtain ⟨x, hx, rfl⟩ := List.mem_map.mp hr
  rw [List.length_map]
  exact h x hx
def sp_Grid_scaled (K : PySem.W.Frag) (C : Addr) : Sp := fun vs H Q _ => ∃ v m w k Bk B, vs = [v, .int k] ∧ IsGrid K C H v m w ∧ m.length ≤ 1000 ∧ w ≤ 1000 ∧ k.natAbs < 2 ^ Bk ∧ (∀ r ∈ m, Bits B r) ∧ Bk + B ≤ 134217728 ∧ ∀ g H', Same H H' → IsGrid K C H' g (scaleM k m) w → Q g H'
theorem m_scaled (t : V) (w : Nat) : (flds t w).lookup ("scaled" : Str) = none := flds_no t w (by decide +kernel) (by decide +kernel)
theorem m_times (t : V) (w : Nat) : (flds t w).lookup ("times" : Str) = none := flds_no t w (by decide +kernel) (by decide +kernel)
theorem m_before (t : V) (w : Nat) : (flds t w).lookup ("before" : Str) = none := flds_no t w (by decide +kernel) (by decide +kernel)
theorem m_stacked (t : V) (w : Nat) : (flds t w).lookup ("stacked" : Str) = none := flds_no t w (by decide +kernel) (by decide +kernel)
/-! ### -a -/
def sp_Grid_neg (K : PySem.W.Frag) (C : Addr) : Sp := fun vs H Q _ => ∃ v m w B, vs = [v] ∧ IsGrid K C H v m w ∧ m.length ≤ 1000 ∧ w ≤ 1000 ∧ (∀ r ∈ m, Bits B r) ∧ B ≤ 1200000 ∧ ∀ g H', Same H H' → IsGrid K C H' g (scaleM (-1) m) w → Q g H'
def timesM (m : List (List Int)) (r : List Int) : List Int := m.map fun o => dotI o r
def sp_Grid_times (K : PySem.W.Frag) (C : Addr) : Sp := fun vs H Q _ => ∃ v m w u r B1 B2, vs = [v, u] ∧ IsGrid K C H v m w ∧ TRow K H u r ∧ r.length = w ∧ m.length ≤ 1000 ∧ w ≤ 1000 ∧ (∀ o ∈ m, Bits B1 o) ∧ Bits B2 r ∧ B1 + B2 ≤ 134217728 ∧ ∀ v' H', Same H H' → TRow K H' v' (timesM m r) → Q v' H'
def sp_Grid_before (K : PySem.W.Frag) (C : Addr) : Sp := fun vs H Q _ => ∃ v m w u r B1 B2, vs = [v, u] ∧ IsGrid K C H v m w ∧ TRow K H u r ∧ r.length = m.length ∧ m.length ≤ 1000 ∧ w ≤ 1000 ∧ (∀ o ∈ m, Bits B1 o) ∧ Bits B2 r ∧ B1 + B2 ≤ 134217728 ∧ ∀ v' H', Same H H' → TRow K H' v' (timesM (transp m w) r) → Q v' H'

end
end K50
namespace K50
open PySem PySem.Spec PyProof.Rows L2 Gm
open C8 (Cal Met Mak pe_c pe_mt pe_mt0 pe_mk)
section
variable {P : Program} {w : World} {K : PySem.W.Frag} {mg : Str → Option Value} {base : Heap}
/-! ### tables as data -/
def pdR (r : List Int) : PyData := .tuple (r.map .int)
def pdM (m : List (List Int)) : PyData := .tuple (m.map pdR)
theorem dp_ints {K : PySem.W.Frag} {H : Hp} : ∀ r : List Int, DpAll K H (r.map V.int) (r.map PyData.int)
  | [] => .nil
  | _ :: r => .cons (.int _) (dp_ints r)
theorem dp_row {K : PySem.W.Frag} {H : Hp} {v : V} {r : List Int} (h : TRow K H v r) : Dp K H v (pdR r) := by
  obtain ⟨a, rfl, hs⟩ := h
  exact .tup hs (dp_ints r)
theorem dp_paired {K : PySem.W.Frag} {H : Hp} : ∀ {vs : List V} {m : List (List Int)}, Paired (TRow K H) vs m → DpAll K H vs (m.map pdR)
  | _, _, .nil => .nil
  | _, _, .cons r t => .cons (dp_row r) (dp_paired t)
theorem dp_rows {K : PySem.W.Frag} {H : Hp} {v : V} {m : List (List Int)} (h : TRows K H v m) : Dp K H v (pdM m) := by
  obtain ⟨a, vs, rfl, hs, hp⟩ := h
  exact .tup hs (dp_paired hp)
theorem lay_ints : ∀ r : List Int, PyData.canLayAll0 (r.map PyData.int) = true
  | [] => by simp [PyData.canLayAll0]
  | _ :: r => by simp [PyData.canLayAll0, PyData.canLay0, lay_ints r]
theorem lay_rows : ∀ m : List (List Int), PyData.canLayAll0 (m.map pdR) = true
  | [] => by simp [PyData.canLayAll0]
  | r :: m => by simp [PyData.canLayAll0, PyData.canLay0, pdR, lay_rows m, lay_ints r]
theorem lay_pdM (m : List (List Int)) : (pdM m).canLay0 = true := by simp [pdM, PyData.canLay0, lay_rows m]
theorem dep_ints : ∀ r : List Int, PyData.depthAll (r.map PyData.int) = 0
  | [] => by simp [PyData.depthAll]
  | _ :: r => by simp [PyData.depthAll, PyData.depth, dep_ints r]
theorem dep_rows : ∀ m : List (List Int), PyData.depthAll (m.map pdR) ≤ 1
  | [] => by simp [PyData.depthAll]
  | r :: m => by
    have := dep_rows m
    simp only [List.map_cons, PyData.depthAll, PyData.depth, pdR, dep_ints r]
    omega
theorem shaped_pdM (m : List (List Int)) : SeqAt.shaped (pdM m) = true := by
  unfold SeqAt.shaped
  rw [Bool.and_eq_true, lay_pdM]
  refine ⟨rfl, decide_eq_true ?_⟩
  have := dep_rows m
  simp only [pdM, PyData.depth]
  omega
/-- equal tables are equal -/
theorem ne_rows {K : PySem.W.Frag} {H : Hp} {v u : V} {m1 m2 : List (List Int)} {Q : VK} (h1 : TRows K H v m1) (h2 : TRows K H u m2) (e : m1 = m2) (q : Q (.bl false) H) : rNeD K v u H Q := by
  subst e
  refine ⟨pdM m1, pdM m1, dp_rows h1, dp_rows h2, shaped_pdM _, shaped_pdM _, ?_⟩
  rw [PySem.SeqAt.eqv_refl _ (lay_pdM m1)]
  exact q

end
end K50
namespace K50
open PySem PySem.Spec PyProof.Rows L2 Gm
open C8 (Cal Met Mak pe_c pe_mt pe_mt0 pe_mk)
section
variable {P : Program} {w : World} {K : PySem.W.Frag} {mg : Str → Option Value} {base : Heap}
theorem row_ty {K : PySem.W.Frag} {H : Hp} {a : Addr} {xs : List V} (h : SqT K H a xs) : TyX K H (.ref a) (.type "tuple") := by
  rcases h with (h | ⟨o, h⟩) | ⟨o, its, n, h, c, _⟩
  · exact .base (.tup h)
  · exact .fTuple h
  · exact .kTuple h c

end
end K50
namespace K50
open PySem PySem.Spec PyProof.Rows L2 Gm
open C8 (Cal Met Mak pe_c pe_mt pe_mt0 pe_mk)
section
variable {P : Program} {w : World} {K : PySem.W.Frag} {mg : Str → Option Value} {base : Heap}
theorem eqv_ints : ∀ r q : List Int, PyData.eqvAll (r.map PyData.int) (q.map PyData.int) = decide (r = q)
  | [], [] => by simp [PyData.eqvAll]
  | [], b :: q => by simp [PyData.eqvAll]
  | a :: r, [] => by simp [PyData.eqvAll]
  | a :: r, b :: q => by
    simp only [List.map_cons, PyData.eqvAll, PyData.eqv, eqv_ints r q]
    by_cases h : a = b
    · subst h
      by_cases h2 : r = q
      · subst h2
        simp
      · simp [h2]
    · simp [h]
theorem eqv_rows : ∀ m l : List (List Int), PyData.eqvAll (m.map pdR) (l.map pdR) = decide (m = l)
  | [], [] => by simp [PyData.eqvAll]
  | [], b :: q => by simp [PyData.eqvAll]
  | a :: r, [] => by simp [PyData.eqvAll]
  | a :: r, b :: q => by
    simp only [List.map_cons, PyData.eqvAll, pdR, PyData.eqv, eqv_ints a b]
    have ih := eqv_rows r q
    rw [ih]
    by_cases h : a = b
    · subst h
      by_cases h2 : r = q
      · subst h2
        simp
      · simp [h2]
    · simp [h]
theorem eqv_pdM (m l : List (List Int)) : PyData.eqv (pdM m) (pdM l) = decide (m = l) := by
  simp only [pdM, PyData.eqv]
  exact eqv_rows m l
theorem eq_rows {K : PySem.W.Frag} {H : Hp} {v u : V} {m1 m2 : List (List Int)} {Q : VK} (h1 : TRows K H v m1) (h2 : TRows K H u m2) (q : Q (.bl (decide (m1 = m2))) H) : rEqD K v u H Q := by
  refine ⟨pdM m1, pdM m2, dp_rows h1, dp_rows h2, shaped_pdM _, shaped_pdM _, ?_⟩
  rw [eqv_pdM]
  exact q
theorem tup_not {K : PySem.W.Frag} {C : Addr} : PySem.W.subIn K (.type "tuple") (.ref C) = some false := by
  have e : fastBuiltinMro "tuple" = some [.type "tuple", .type "object"] := by decide +kernel
  show (fastBuiltinMro "tuple").map (·.contains (.ref C)) = some false
  rw [e] <;> rfl
/-! ### a == b -/
def sp_Grid_eq (K : PySem.W.Frag) (C : Addr) : Sp := fun vs H Q _ => ∃ v m w u m2, vs = [v, u] ∧ IsGrid K C H v m w ∧ ((∃ w2, IsGrid K C H u m2 w2 ∧ Q (.bl (decide (m = m2 ∧ w = w2))) H) ∨ (TRows K H u m2 ∧ Q (.bl false) H))
theorem ok_Grid_eq (T : Top K mg) (hN : base.NoSeer) (hT : P.given.tree = none) : FnOk P w K mg base CX0 1 T.a_Grid_eq T.d_Grid_eq ["self", "other"] (sp_Grid_eq K T.C_Grid) := by
  refine T.F_Grid_eq.ok sc_Grid_eq (fun vs H Q E h => ?_) (fun cdv A outer s H vs Q E hr h => ?_)
  · obtain ⟨v, m, w, u, m2, rfl, _⟩ := h
    rfl
  · obtain ⟨v, m, n, u, m2, rfl, G, q⟩ := h
    obtain ⟨⟨p, dx, t, rfl, ho, ht⟩, hrw⟩ := id G
    refine ⟨_, (pss_one (ps_ret (pe_and (pe_callB (isiK K rfl) (by rfl) T.z_isinstance (by decide +kernel) (pa_cons (pv 1) (pa_cons (pe_glob (by rfl) T.g_Grid (show RelV (.ref T.C_Grid) _ from rfl)) pa_nil))) (pe_and (pe_cmpR (eqDK K rfl hr) (fldK K rfl (pv 0) rfl) (fldK K rfl (pv 1) rfl) (nomark _)) (pe_one (pe_cmpR op_eq (fldK K rfl (pv 0) rfl) (fldK K rfl (pv 1) rfl) (nomark _))))))), ?_⟩
    rcases q with ⟨w2, G2, q⟩ | ⟨hu, q⟩
    · obtain ⟨⟨p2, dx2, t2, rfl, ho2, ht2⟩, hrw2⟩ := id G2
      refine ⟨_, rfl, .ref p2, .ref T.C_Grid, _, _, true, rfl, .own _, .base (.ins ho2 T.cl_Grid T.kc_Grid T.kg_Grid T.kt_Grid T.km_Grid), ?_, true, rfl, ?_⟩
      · unfold PySem.W.kitOne
        rw [if_pos (beq_self_eq_true _)]
      refine iteT ?_
      refine ⟨_, rfl, p, T.C_Grid, dx, _, _, rfl, ho, T.cl_Grid, T.n_rows, flds_rows _ _, _, rfl, p2, T.C_Grid, dx2, _, _, rfl, ho2, T.cl_Grid, T.n_rows, flds_rows _ _, eq_rows ht ht2 ⟨_, rfl, ?_⟩⟩
      by_cases hm : m = m2
      · rw [decide_eq_true hm]
        refine iteT ?_
        refine ⟨_, rfl, p, T.C_Grid, dx, _, _, rfl, ho, T.cl_Grid, T.n_width, flds_width _ _, _, rfl, p2, T.C_Grid, dx2, _, _, rfl, ho2, T.cl_Grid, T.n_width, flds_width _ _, rfl, ?_⟩
        have e : decide (V.int (n : Int) = V.int (w2 : Int)) = decide (m = m2 ∧ n = w2) := by
          by_cases hw : n = w2
          · rw [decide_eq_true (show m = m2 ∧ n = w2 from ⟨hm, hw⟩), decide_eq_true (by rw [hw])]
          · rw [decide_eq_false (fun z : m = m2 ∧ n = w2 => hw z.2), decide_eq_false (fun z => hw (by have := V.int.inj z; omega))]
        show Q (.bl (decide (V.int (n : Int) = V.int (w2 : Int)))) H
        rw [e]
        exact q
      · rw [decide_eq_false hm]
        refine iteF ?_
        rw [decide_eq_false (fun z : m = m2 ∧ n = w2 => hm z.1)] at q
        exact q
    · obtain ⟨a, ws, rfl, hs, hp⟩ := id hu
      refine ⟨_, rfl, .ref a, .ref T.C_Grid, _, _, false, rfl, .own _, row_ty hs, ?_, false, rfl, ?_⟩
      · show (if (Value.type "tuple" == Value.ref T.C_Grid) = true then some true else if ((PySem.W.clsIn K T.C_Grid).isSome && PySem.W.typeIn K (.ref T.C_Grid) == some (.type "type")) = true then PySem.W.subIn K (.type "tuple") (.ref T.C_Grid) else none) = some false
        have e2 : ((PySem.W.clsIn K T.C_Grid).isSome && PySem.W.typeIn K (.ref T.C_Grid) == some (.type "type")) = true := by
          have e := T.ic_Grid
          have e' : (PySem.W.clsIn K T.C_Grid).isSome = true := e
          rw [e', T.ty_Grid] <;> rfl
        rw [if_neg (by simp), if_pos e2]
        exact tup_not
      exact iteF q
/-! ### stacked -/
theorem paired_app {α β : Type} {F : α → β → Prop} : ∀ {xs : List α} {ys : List β} {xs2 : List α} {ys2 : List β}, Paired F xs ys → Paired F xs2 ys2 → Paired F (xs ++ xs2) (ys ++ ys2)
  | _, _, _, _, .nil, h => h
  | _, _, _, _, .cons r t, h => .cons r (paired_app t h)
def sp_Grid_stacked (K : PySem.W.Frag) (C : Addr) : Sp := fun vs H Q _ => ∃ v m w u m2, vs = [v, u] ∧ IsGrid K C H v m w ∧ IsGrid K C H u m2 w ∧ m.length + m2.length ≤ 1000 ∧ w ≤ 1000 ∧ ∀ g H', Same H H' → IsGrid K C H' g (m ++ m2) w → Q g H'

end
end K50
namespace K50
open PySem PySem.Spec PyProof.Rows L2 Gm
open C8 (Cal Met Mak pe_c pe_mt pe_mt0 pe_mk)
section
variable {P : Program} {w : World} {K : PySem.W.Frag} {mg : Str → Option Value} {base : Heap}
theorem bools_list : ∀ {is : List Nat} {l : List V} {f : Nat → Bool}, Paired (fun i v => v = V.bl (f i)) is l → l = (is.map f).map V.bl
  | _, _, _, .nil => rfl
  | _, _, _, .cons r t => by
    rw [r, bools_list t]
    rfl
theorem not_all {f : Nat → Bool} {n i : Nat} (hi : i < n) (h : f i = false) : ((List.range n).map f).all id = false := by
  rw [List.all_eq_false]
  exact ⟨false, List.mem_map.mpr ⟨i, List.mem_range.mpr hi, h⟩, by simp⟩

end
end K50
namespace K50
open PySem PySem.Spec PyProof.Rows L2 Gm
open C8 (Cal Met Mak pe_c pe_mt pe_mt0 pe_mk)
section
variable {P : Program} {w : World} {K : PySem.W.Frag} {mg : Str → Option Value} {base : Heap}
/-! ### the width that isn't told -/
def sp_checked_width_N (K : PySem.W.Frag) : Sp := fun vs H Q _ => ∃ (v : V) (m : List (List Int)) (w : Nat), vs = [v, .non] ∧ TRows K H v m ∧ 0 < m.length ∧ m.length ≤ 1000 ∧ (∀ r ∈ m, r.length = w) ∧ ∀ H', Same H H' → Q (.int w) H'
theorem ok_checked_width_N (T : Top K mg) (hN : base.NoSeer) (hT : P.given.tree = none) : FnOk P w K mg base CX0 2 T.a_checked_width T.d_checked_width ["rows", "width"] (sp_checked_width_N K) := by
  refine T.F_checked_width.ok sc_checked_width (fun vs H Q E h => ?_) (fun cdv A outer s H vs Q E hr h => ?_)
  · obtain ⟨v, m, w, rfl, _⟩ := h
    rfl
  · obtain ⟨v, m, w, rfl, hm, h0, hl, hw, q⟩ := h
    obtain ⟨a, ws, rfl, hs, hp⟩ := id hm
    have lw := Paired.length hp
    obtain ⟨v0, ev0⟩ : ∃ v0, ws[0]? = some v0 := ⟨ws[0]'(by omega), List.getElem?_eq_getElem (by omega)⟩
    obtain ⟨r0, er0, b0, rfl, hb0⟩ := Paired.getR hp ev0
    have hr0 := hw r0 (List.mem_of_getElem? er0)
    refine ⟨_, (pss_cons (ps_if (pt_cmpR op_isN (pv 1) pe_non (nomark _))
      (pss_one (ps_set (i := 1) sc_checked_width.nd rfl (by first | exact .inl rfl | exact .inr rfl) (pe_ifExp (pt_cmpR op_gt (pe_callB (lenS K rfl) (by rfl) T.z_len (by decide +kernel) (pa_cons (pv 0) pa_nil)) pe_int (nomark _)) (pe_callB (lenS K rfl) (by rfl) T.z_len (by decide +kernel) (pa_cons (pe_ix (ixT K rfl) (pv 0) pe_int (fun _ _ => rfl)) pa_nil)) pe_int)))
      pss_nil)
      (pss_cons (ps_if (PW.pt (pw_or (pt_not (pt_val (pe_c (cal_is_integer T hN hT) hr (by decide) (by rfl) (pa_cons (pv 1) pa_nil)))) (pw_or1 (pt_cmpR op_lt (pv 1) pe_int (nomark _)))))
      (pss_one ps_never)
      pss_nil)
      (pss_cons (ps_if (pt_not (pt_val (pe_callB (allK K rfl rfl) (by rfl) T.z_all (by decide +kernel) (pa_cons (pe_lc (own := [("row", 2)]) (g := (gName 2)) (by rfl) sc_checked_width.nd (piS K rfl (pv 0)) ((by show BlkOk ["rows", "width", "row"] (defScope s_checked_width) _ _; exact blkOk_by (by decide +kernel))) (fun _ _ _ _ _ => (pg_name (i := 2) sc_checked_width.nd rfl (by first | exact .inl rfl | exact .inr rfl))) (fun _ _ _ _ _ => pts_nil) (fun _ _ _ _ _ => (pe_cmpR op_eq (pe_callB (lenS K rfl) (by rfl) T.z_len (by decide +kernel) (pa_cons (pv 2) pa_nil)) (pv 1) (nomark _)))) pa_nil))))
      (pss_one ps_never)
      pss_nil)
      (pss_one (ps_ret (pv 1)))))), ?_⟩
    refine ⟨_, rfl, rfl, _, rfl, ?_⟩
    rw [decide_eq_true rfl]
    refine iteT ?_
    refine ⟨_, rfl, a, ws, rfl, .inr hs, _, _, rfl, rfl, _, rfl, ?_⟩
    rw [decide_eq_true (by omega)]
    refine iteT ?_
    refine ⟨_, rfl, a, ws, _, _, rfl, rfl, hs, atI_nat (j := 0) ev0, b0, _, rfl, .inr hb0, ?_⟩
    rw [List.length_map, hr0]
    refine ⟨_, rfl, _, rfl, true, rfl, iteF ⟨_, rfl, _, _, rfl, rfl, _, rfl, ?_⟩⟩
    rw [decide_eq_false (by omega)]
    refine iteF ?_
    refine ⟨_, rfl, a, ws, rfl, .inr hs, fun J2 G2 W2 hG2 D hD => ?_⟩
    refine lc_all W2 hD (by omega) (fun H4 s4 => hG2 H4 fun b _ o => s4 b o) (fun _ v _ => v = .bl true) (fun _ _ _ _ _ _ _ h => h) ?_ gm_name ?_
    · rintro i x H4 H4' acc Ko hi s4 eD ⟨rfl, ex⟩ k
      obtain ⟨r, er, b, rfl, hb⟩ := Paired.getR hp ex
      refine ⟨rfl, ?_⟩
      refine ⟨_, rfl, b, _, rfl, .inr (Same.seqT s4 hb), _, rfl, rfl, ?_⟩
      rw [List.length_map, hw r (List.mem_of_getElem? er), decide_eq_true rfl]
      exact k _ _ (Same.refl _) rfl
    · intro H4 l s4 eD hl2
      refine ⟨D, List.replicate l.length true, rfl, .inl (.inl (by rw [← paired_true hl2]; exact eD)), true, by rw [all_true], ?_⟩
      refine iteF ?_
      exact ⟨_, rfl, q _ s4⟩
theorem cal_checked_width_N (T : Top K mg) (hN : base.NoSeer) (hT : P.given.tree = none) : Cal P w K mg base 2 "checked_width" (sp_checked_width_N K) [] := ⟨⟨_, _, _, [], ok_checked_width_N T hN hT, T.g_checked_width, T.F_checked_width.kp, T.b_checked_width, .nil⟩⟩
def sp_checked_width_NX (K : PySem.W.Frag) (X : Addr) : Sp := fun vs H _ E => ∃ (v : V) (m : List (List Int)) (i : Nat), vs = [v, .non] ∧ TRows K H v m ∧ 0 < m.length ∧ m.length ≤ 1000 ∧ (∃ r0 r, m[0]? = some r0 ∧ m[i]? = some r ∧ r.length ≠ r0.length) ∧ ∀ H', Same H H' → E (.ref X) none H'
theorem ok_checked_width_NX (T : Top K mg) (hN : base.NoSeer) (hT : P.given.tree = none) : FnOk P w K mg base (L2N.CX P w) 2 T.a_checked_width T.d_checked_width ["rows", "width"] (sp_checked_width_NX K T.X_Malformed) := by
  refine okN T.F_checked_width sc_checked_width (fun vs H Q E h => ?_) (fun cdv A outer s H vs Q E hr h => ?_)
  · obtain ⟨v, m, i, rfl, _⟩ := h
    rfl
  · obtain ⟨v, m, i0, rfl, hm, h0, hl, ⟨r0, r1, er0, er1, hne⟩, q⟩ := h
    obtain ⟨a, ws, rfl, hs, hp⟩ := id hm
    have lw := Paired.length hp
    obtain ⟨v0, ev0, b0, rfl, hb0⟩ := Paired.getR (Paired.swap hp) er0
    refine ⟨_, (pss_cons (ps_if (pt_cmpR op_isN (pv 1) pe_non (nomark _))
      (pss_one (ps_set (i := 1) sc_checked_width.nd rfl (by first | exact .inl rfl | exact .inr rfl) (pe_ifExp (pt_cmpR op_gt (pe_callB (lenS K rfl) (by rfl) T.z_len (by decide +kernel) (pa_cons (pv 0) pa_nil)) pe_int (nomark _)) (pe_callB (lenS K rfl) (by rfl) T.z_len (by decide +kernel) (pa_cons (pe_ix (ixT K rfl) (pv 0) pe_int (fun _ _ => rfl)) pa_nil)) pe_int)))
      pss_nil)
      (pss_cons (ps_if (PW.pt (pw_or (pt_not (pt_val (pe_c (cal_is_integer T hN hT) hr (by decide) (by rfl) (pa_cons (pv 1) pa_nil)))) (pw_or1 (pt_cmpR op_lt (pv 1) pe_int (nomark _)))))
      (pss_one ps_never)
      pss_nil)
      (pss_cons (ps_if (pt_not (pt_val (pe_callB (allK K rfl rfl) (by rfl) T.z_all (by decide +kernel) (pa_cons (pe_lc (own := [("row", 2)]) (g := (gName 2)) (by rfl) sc_checked_width.nd (piS K rfl (pv 0)) ((by show BlkOk ["rows", "width", "row"] (defScope s_checked_width) _ _; exact blkOk_by (by decide +kernel))) (fun _ _ _ _ _ => (pg_name (i := 2) sc_checked_width.nd rfl (by first | exact .inl rfl | exact .inr rfl))) (fun _ _ _ _ _ => pts_nil) (fun _ _ _ _ _ => (pe_cmpR op_eq (pe_callB (lenS K rfl) (by rfl) T.z_len (by decide +kernel) (pa_cons (pv 2) pa_nil)) (pv 1) (nomark _)))) pa_nil))))
      (pss_one (L2N.ps_raise rfl (L2N.takes_of rfl rfl rfl rfl) (L2N.pmk_own PySem.F.excBase_ValueError T.xX_Malformed T.gX_Malformed T.kX_Malformed (raises_own T.bX_Malformed T.tX_Malformed) (by exact rfl))))
      pss_nil)
      (pss_one (ps_ret (pv 1)))))), ?_⟩
    refine ⟨_, rfl, rfl, _, rfl, ?_⟩
    rw [decide_eq_true rfl]
    refine iteT ?_
    refine ⟨_, rfl, a, ws, rfl, .inr hs, _, _, rfl, rfl, _, rfl, ?_⟩
    rw [decide_eq_true (by omega)]
    refine iteT ?_
    refine ⟨_, rfl, a, ws, _, _, rfl, rfl, hs, atI_nat (j := 0) ev0, b0, _, rfl, .inr hb0, ?_⟩
    rw [List.length_map]
    refine ⟨_, rfl, _, rfl, true, rfl, iteF ⟨_, rfl, _, _, rfl, rfl, _, rfl, ?_⟩⟩
    rw [decide_eq_false (by omega)]
    refine iteF ?_
    refine ⟨_, rfl, a, ws, rfl, .inr hs, fun J2 G2 W2 hG2 D hD => ?_⟩
    refine lc_all W2 hD (by omega) (fun H4 s4 => hG2 H4 fun b _ o => s4 b o) (fun i v _ => v = .bl (decide ((m.getD i []).length = r0.length))) (fun _ _ _ _ _ _ _ h => h) ?_ gm_name ?_
    · rintro i x H4 H4' acc Ko hi s4 eD ⟨rfl, ex⟩ k
      obtain ⟨r, er, b, rfl, hb⟩ := Paired.getR hp ex
      refine ⟨rfl, ?_⟩
      refine ⟨_, rfl, b, _, rfl, .inr (Same.seqT s4 hb), _, rfl, rfl, ?_⟩
      refine k _ _ (Same.refl _) ?_
      rw [List.getD_eq_getElem?_getD, er, List.length_map]
      show V.bl (decide (V.int (r.length : Int) = V.int (r0.length : Int))) = V.bl (decide (r.length = r0.length))
      refine congrArg V.bl ?_
      by_cases h : r.length = r0.length
      · rw [decide_eq_true h, decide_eq_true (by rw [h])]
      · rw [decide_eq_false h, decide_eq_false (fun z => h (by have := V.int.inj z; omega))]
    · intro H4 l s4 eD hl2
      refine ⟨D, (List.range ws.length).map fun i => decide ((m.getD i []).length = r0.length), rfl, .inl (.inl (by rw [← bools_list hl2]; exact eD)), false, ?_, ?_⟩
      · have hi0 : i0 < m.length := (List.getElem?_eq_some_iff.mp er1).1
        rw [not_all (i := i0) (by omega) (by rw [List.getD_eq_getElem?_getD, er1]; exact decide_eq_false hne)]
      · refine iteT ?_
        exact q _ s4
/-! ### the constructor without a width; that raises -/
def sp_Grid_init_N (K : PySem.W.Frag) (C : Addr) : Sp := fun vs H Q _ => ∃ (p dx : Addr) (v : V) (m : List (List Int)) (w : Nat), vs = [.ref p, v, .non] ∧ H p = some (.ins C dx []) ∧ IRows K H v m ∧ 0 < m.length ∧ m.length ≤ 1000 ∧ w ≤ 1000 ∧ (∀ r ∈ m, r.length = w) ∧
  ∀ t H', Off p H H' → H' p = some (.ins C dx (flds t w)) → TRows K H' t m → Q .non H'
theorem ok_Grid_init_N (T : Top K mg) (hN : base.NoSeer) (hT : P.given.tree = none) : FnOk P w K mg base CX0 3 T.a_Grid_init T.d_Grid_init ["self", "rows", "width"] (sp_Grid_init_N K T.C_Grid) := by
  refine T.F_Grid_init.ok sc_Grid_init (fun vs H Q E h => ?_) (fun cdv A outer s H vs Q E hr h => ?_)
  · obtain ⟨p, dx, v, m, w, rfl, _⟩ := h
    rfl
  · obtain ⟨p, dx, v, m, w, rfl, hp, hm, h0, hl, hw, hrw, q⟩ := h
    refine ⟨_, PSs.nox (pss_cons (ps_fld (pv 0) (pe_c (cal_checked_rows T hN hT) hr (by decide) (by rfl) (pa_cons (pv 1) pa_nil)) rfl)
      (pss_one (ps_fld (pv 0) (pe_c (cal_checked_width_N T hN hT) hr (by decide) (by rfl) (pa_cons (fldK K rfl (pv 0) rfl) (pa_cons (pv 2) pa_nil))) rfl))), ?_⟩
    refine ⟨_, rfl, v, m, rfl, hm, hl, fun r hr => by rw [hrw r hr]; exact hw, fun t H1 s1 ht => ?_⟩
    have hp1 := s1 _ _ hp
    refine ⟨_, rfl, p, T.C_Grid, dx, [], rfl, hp1, T.cl_Grid, T.n_rows, by show 0 < 1000; decide, ?_⟩
    refine ⟨_, rfl, p, T.C_Grid, dx, _, t, rfl, upd_same, T.cl_Grid, T.n_rows, ?_, ?_⟩
    · rw [lookup_putF, if_pos rfl]
    have ht2 : TRows K (upd H1 p (.ins T.C_Grid dx (putF "rows" t []))) t m := trows_off hp1 Off.upd ht
    refine ⟨_, rfl, t, m, w, rfl, ht2, h0, hl, hrw, fun H2 s2 => ?_⟩
    have hp2 := s2 _ _ upd_same
    refine ⟨_, rfl, p, T.C_Grid, dx, _, rfl, hp2, T.cl_Grid, T.n_width, by show 1 < 1000; decide, ?_⟩
    refine q t _ (fun b o n e => ?_) upd_same (trows_off hp2 Off.upd (ht2.same s2))
    rw [upd_ne n]
    exact s2 _ _ (Off.upd _ _ n (s1 _ _ e))

end
end K50
namespace K50
open PySem PySem.Spec PyProof.Rows L2 Gm
open C8 (Cal Met Mak pe_c pe_mt pe_mt0 pe_mk)
section
variable {P : Program} {w : World} {K : PySem.W.Frag} {mg : Str → Option Value} {base : Heap}
/-- the state of the draws: two numbers, the first not negative -/
def StAt (H : Hp) (p : Addr) : Prop := ∃ s t : Int, H p = some (.lst [.int s, .int t]) ∧ 0 ≤ s
def sp_law_state (K : PySem.W.Frag) : Sp := fun vs H Q _ => ∃ (a : Addr) (ns : List Int), vs = [.ref a] ∧ SqL K H a (ns.map V.int) ∧ ns.length ≤ 63 ∧ ∀ p H', Same H H' → H p = none → StAt H' p → Q (.ref p) H'
def sp_law_take : Sp := fun vs H Q _ => ∃ (p : Addr) (m : Nat), vs = [.ref p, .int m] ∧ StAt H p ∧ 0 < m ∧ m < 1000000 ∧ ∀ (r : Nat) H', r < m → Off p H H' → StAt H' p → Q (.int r) H'

end
end K50
namespace K50
open PySem PySem.Spec PyProof.Rows L2 Gm
open C8 (Cal Met Mak pe_c pe_mt pe_mt0 pe_mk)
section
variable {P : Program} {w : World} {K : PySem.W.Frag} {mg : Str → Option Value} {base : Heap}
/-! ### _law_determinant -/
def detT (n : Nat) (f : List (List Int) → Int) (m : List (List Int)) (k : Nat) : Int := (1 - 2 * ((k : Int) % 2)) * (m.headD []).getD k 0 * f (m.tail.map fun r => r.eraseIdx k)
/-- the law's determinant, by the first row -/
def detL : Nat → List (List Int) → Int
  | 0, _ => 1
  | n + 1, m => ((List.range (n + 1)).map (detT n (detL n) m)).sum
theorem sq_tail {n B : Nat} {m : List (List Int)} (h : Sq (n + 1) B m) {k : Nat} (hk : k < n + 1) : Sq n B (m.tail.map fun r => r.eraseIdx k) := by
  refine ⟨by rw [List.length_map, List.length_tail, h.len]; rfl, fun r hr => ?_, fun r hr => ?_⟩
  · obtain ⟨r', hr', rfl⟩ := List.mem_map.mp hr
    have := h.row r' (List.mem_of_mem_tail hr')
    rw [List.length_eraseIdx_of_lt (by omega), this]
    rfl
  · obtain ⟨r', hr', rfl⟩ := List.mem_map.mp hr
    exact fun x hx => h.bits r' (List.mem_of_mem_tail hr') x (List.mem_of_mem_eraseIdx hx)
theorem sum_le {b : Nat} : ∀ {l : List Int}, (∀ x ∈ l, x.natAbs ≤ b) → l.sum.natAbs ≤ l.length * b
  | [], _ => by simp
  | x :: l, h => by
    have h1 := h x (List.mem_cons_self ..)
    have h2 := sum_le fun y hy => h y (List.mem_cons_of_mem _ hy)
    rw [List.sum_cons, List.length_cons, Nat.succ_mul]
    omega
theorem detT_le {n B c : Nat} {f : List (List Int) → Int} {m : List (List Int)} (h : Sq (n + 1) B m) {k : Nat} (hk : k < n + 1) (hf : (f (m.tail.map fun r => r.eraseIdx k)).natAbs < 2 ^ c) : (detT n f m k).natAbs ≤ 2 ^ B * 2 ^ c := by
  have h0 : ((m.headD []).getD k 0).natAbs < 2 ^ B := by
    cases m with
    | nil => exact absurd h.len (by simp)
    | cons r m =>
      have hr := h.row r (List.mem_cons_self ..)
      have hk' : k < r.length := by omega
      show (r.getD k 0).natAbs < 2 ^ B
      rw [List.getD_eq_getElem?_getD, List.getElem?_eq_getElem hk']
      exact h.bits r (List.mem_cons_self ..) _ (List.getElem_mem hk')
  have h1 : (1 - 2 * ((k : Int) % 2)).natAbs = 1 := by omega
  unfold detT
  rw [Int.natAbs_mul, Int.natAbs_mul, h1, Nat.one_mul]
  exact Nat.mul_le_mul (Nat.le_of_lt h0) (Nat.le_of_lt hf)
theorem detL_le {B : Nat} : ∀ {n : Nat} {m : List (List Int)}, n ≤ 10 → Sq n B m → (detL n m).natAbs < 2 ^ (n * (B + 8) + 1)
  | 0, m, _, _ => by
    show (1 : Int).natAbs < 2 ^ (0 * (B + 8) + 1)
    rw [Nat.zero_mul]
    decide
  | n + 1, m, hn, h => by
    have hs : (detL (n + 1) m).natAbs ≤ ((List.range (n + 1)).map (detT n (detL n) m)).length * (2 ^ B * 2 ^ (n * (B + 8) + 1)) := by
      refine sum_le fun x hx => ?_
      obtain ⟨k, hk, rfl⟩ := List.mem_map.mp hx
      have hk' := List.mem_range.mp hk
      exact detT_le h hk' (detL_le (by omega) (sq_tail h hk'))
    rw [List.length_map, List.length_range, ← Nat.pow_add] at hs
    have h2 : n + 1 < 2 ^ 8 := by have : (2 : Nat) ^ 8 = 256 := rfl; omega
    have h3 : (n + 1) * 2 ^ (B + (n * (B + 8) + 1)) < 2 ^ 8 * 2 ^ (B + (n * (B + 8) + 1)) := (Nat.mul_lt_mul_right (Nat.two_pow_pos _)).mpr h2
    rw [← Nat.pow_add] at h3
    have e : 8 + (B + (n * (B + 8) + 1)) = (n + 1) * (B + 8) + 1 := by rw [Nat.succ_mul]; omega
    rw [e] at h3
    omega

end
end K50
namespace K50
open PySem PySem.Spec PyProof.Rows L2 Gm
open C8 (Cal Met Mak pe_c pe_mt pe_mt0 pe_mk)
section
variable {P : Program} {w : World} {K : PySem.W.Frag} {mg : Str → Option Value} {base : Heap}
/-! ### the determinant up to size 4 -/
theorem row1 {r : List Int} (h : r.length = 1) : ∃ a, r = [a] := by
  match r, h with
  | [a], _ => exact ⟨a, rfl⟩
theorem row2 {r : List Int} (h : r.length = 2) : ∃ a b, r = [a, b] := by
  match r, h with
  | [a, b], _ => exact ⟨a, b, rfl⟩
theorem row3 {r : List Int} (h : r.length = 3) : ∃ a b c, r = [a, b, c] := by
  match r, h with
  | [a, b, c], _ => exact ⟨a, b, c, rfl⟩
theorem row4 {r : List Int} (h : r.length = 4) : ∃ a b c d, r = [a, b, c, d] := by
  match r, h with
  | [a, b, c, d], _ => exact ⟨a, b, c, d, rfl⟩
/-- a square matrix -/
structure Sz (n : Nat) (m : List (List Int)) : Prop where
  len : m.length = n
  row : ∀ r ∈ m, r.length = n
theorem Sq.sz {n B : Nat} {m : List (List Int)} (h : Sq n B m) : Sz n m := ⟨h.len, h.row⟩
theorem sz1 {m : List (List Int)} (h : Sz 1 m) : ∃ a, m = [[a]] := by
  obtain ⟨h1, h2⟩ := h
  match m, h1, h2 with
  | [r], _, h2 =>
    obtain ⟨a, rfl⟩ := row1 (h2 r (by simp))
    exact ⟨a, rfl⟩
theorem sz2 {m : List (List Int)} (h : Sz 2 m) : ∃ a b c d, m = [[a, b], [c, d]] := by
  obtain ⟨h1, h2⟩ := h
  match m, h1, h2 with
  | [r, t], _, h2 =>
    obtain ⟨a, b, rfl⟩ := row2 (h2 r (by simp))
    obtain ⟨c, d, rfl⟩ := row2 (h2 t (by simp))
    exact ⟨a, b, c, d, rfl⟩
theorem sz3 {m : List (List Int)} (h : Sz 3 m) : ∃ a b c d e f g k l, m = [[a, b, c], [d, e, f], [g, k, l]] := by
  obtain ⟨h1, h2⟩ := h
  match m, h1, h2 with
  | [r, t, u], _, h2 =>
    obtain ⟨a, b, c, rfl⟩ := row3 (h2 r (by simp))
    obtain ⟨d, e, f, rfl⟩ := row3 (h2 t (by simp))
    obtain ⟨g, k, l, rfl⟩ := row3 (h2 u (by simp))
    exact ⟨a, b, c, d, e, f, g, k, l, rfl⟩
theorem sz4 {m : List (List Int)} (h : Sz 4 m) : ∃ a b c d e f g k l o p q r s t u, m = [[a, b, c, d], [e, f, g, k], [l, o, p, q], [r, s, t, u]] := by
  obtain ⟨h1, h2⟩ := h
  match m, h1, h2 with
  | [r1, r2, r3, r4], _, h2 =>
    obtain ⟨a, b, c, d, rfl⟩ := row4 (h2 r1 (by simp))
    obtain ⟨e, f, g, k, rfl⟩ := row4 (h2 r2 (by simp))
    obtain ⟨l, o, p, q, rfl⟩ := row4 (h2 r3 (by simp))
    obtain ⟨r, s, t, u, rfl⟩ := row4 (h2 r4 (by simp))
    exact ⟨a, b, c, d, e, f, g, k, l, o, p, q, r, s, t, u, rfl⟩
def D2 (a b c d : Int) : Int := a * d - b * c
def D3 (a b c d e f g k l : Int) : Int := a * D2 e f k l - b * D2 d f g l + c * D2 d e g k
def D4 (a b c d e f g k l o p q r s t u : Int) : Int := a * D3 f g k o p q s t u - b * D3 e g k l p q r t u + c * D3 e f k l o q r s u - d * D3 e f g l o p r s t
theorem detL1 (a : Int) : detL 1 [[a]] = a := by
  show (1 - 2 * ((0 : Int) % 2)) * a * 1 + 0 = a
  grind
theorem detL2 (a b c d : Int) : detL 2 [[a, b], [c, d]] = D2 a b c d := by
  show (1 - 2 * ((0 : Int) % 2)) * a * detL 1 [[d]] + ((1 - 2 * ((1 : Int) % 2)) * b * detL 1 [[c]] + 0) = a * d - b * c
  rw [detL1, detL1]
  grind
theorem detL3 (a b c d e f g k l : Int) : detL 3 [[a, b, c], [d, e, f], [g, k, l]] = D3 a b c d e f g k l := by
  show (1 - 2 * ((0 : Int) % 2)) * a * detL 2 [[e, f], [k, l]] + ((1 - 2 * ((1 : Int) % 2)) * b * detL 2 [[d, f], [g, l]] + ((1 - 2 * ((2 : Int) % 2)) * c * detL 2 [[d, e], [g, k]] + 0)) = a * D2 e f k l - b * D2 d f g l + c * D2 d e g k
  rw [detL2, detL2, detL2]
  grind
theorem detL4 (a b c d e f g k l o p q r s t u : Int) : detL 4 [[a, b, c, d], [e, f, g, k], [l, o, p, q], [r, s, t, u]] = D4 a b c d e f g k l o p q r s t u := by
  show (1 - 2 * ((0 : Int) % 2)) * a * detL 3 [[f, g, k], [o, p, q], [s, t, u]] + ((1 - 2 * ((1 : Int) % 2)) * b * detL 3 [[e, g, k], [l, p, q], [r, t, u]] + ((1 - 2 * ((2 : Int) % 2)) * c * detL 3 [[e, f, k], [l, o, q], [r, s, u]] + ((1 - 2 * ((3 : Int) % 2)) * d * detL 3 [[e, f, g], [l, o, p], [r, s, t]] + 0))) = a * D3 f g k o p q s t u - b * D3 e g k l p q r t u + c * D3 e f k l o q r s u - d * D3 e f g l o p r s t
  rw [detL3, detL3, detL3, detL3]
  generalize D3 f g k o p q s t u = A
  generalize D3 e g k l p q r t u = B
  generalize D3 e f k l o q r s u = C
  generalize D3 e f g l o p r s t = D
  grind
theorem fdiv_of {x l D : Int} (hl : l ≠ 0) (h : x = l * D) : x.fdiv l = D := by
  rw [h]
  exact Int.mul_fdiv_cancel_left D hl
/-! #### the elimination -/
theorem bare1 (s l x : Int) : bare 1 s l [[x]] = s * x := by
  by_cases h : x = 0
  · subst h
    show (0 : Int) = s * 0
    rw [Int.mul_zero]
  · have e : bare 1 s l [[x]] = match (if x ≠ 0 then some 0 else none) with
      | none => 0
      | some k => bare 0 (if k % 2 = 1 then -s else s) ((([[x]] : List (List Int)).getD k []).headD 0) (((([[x]] : List (List Int)).eraseIdx k)).map fun r => clr ((([[x]] : List (List Int))).getD k []) r l) := rfl
    rw [e, if_pos h]
    rfl
theorem bare2 (s l a b c d D : Int) (hl : l ≠ 0) (h : D2 a b c d = l * D) : bare 2 s l [[a, b], [c, d]] = s * D := by
  have e : bare 2 s l [[a, b], [c, d]] = match (if a ≠ 0 then some 0 else if c ≠ 0 then some 1 else none) with
      | none => 0
      | some k => bare 1 (if k % 2 = 1 then -s else s) ((([[a, b], [c, d]] : List (List Int)).getD k []).headD 0) (((([[a, b], [c, d]] : List (List Int)).eraseIdx k)).map fun r => clr ((([[a, b], [c, d]] : List (List Int))).getD k []) r l) := rfl
  unfold D2 at h
  rw [e]
  by_cases ha : a = 0
  · rw [if_neg (fun z => z ha)]
    by_cases hc : c = 0
    · rw [if_neg (fun z => z hc)]
      have : l * D = 0 := by rw [← h, ha, hc]; grind
      rcases Int.mul_eq_zero.mp this with z | z
      · exact absurd z hl
      · rw [z, Int.mul_zero]
    · rw [if_pos hc]
      show bare 1 (-s) c [[(c * b - a * d).fdiv l]] = s * D
      rw [fdiv_of hl (show c * b - a * d = l * (-D) by grind), bare1]
      grind
  · rw [if_pos ha]
    show bare 1 s a [[(a * d - c * b).fdiv l]] = s * D
    rw [fdiv_of hl (show a * d - c * b = l * D by grind), bare1]

end
end K50
namespace K50
open PySem PySem.Spec PyProof.Rows L2 Gm
open C8 (Cal Met Mak pe_c pe_mt pe_mt0 pe_mk)
section
variable {P : Program} {w : World} {K : PySem.W.Frag} {mg : Str → Option Value} {base : Heap}
theorem chio3 (a b c d e f g k x : Int) : D2 (a * e - d * b) (a * f - d * c) (a * k - g * b) (a * x - g * c) = a * D3 a b c d e f g k x := by
  unfold D3 D2
  grind
theorem D3_swap1 (a b c d e f g k x : Int) : D3 d e f a b c g k x = -D3 a b c d e f g k x := by
  unfold D3 D2
  grind
theorem D3_swap2 (a b c d e f g k x : Int) : D3 g k x a b c d e f = D3 a b c d e f g k x := by
  unfold D3 D2
  grind
theorem D3_zero (b c e f k x : Int) : D3 0 b c 0 e f 0 k x = 0 := by
  unfold D3 D2
  grind
theorem cancel2 {l x y : Int} (hl : l ≠ 0) (h : l * l * x = l * l * y) : x = y :=
  Int.eq_of_mul_eq_mul_left (Int.mul_ne_zero hl hl) h
theorem can3 {l a D Z p1 p2 p3 p4 : Int} (hl : l ≠ 0) (t : D2 (l * p1) (l * p2) (l * p3) (l * p4) = a * Z) (hz : Z = l * l * D) : D2 p1 p2 p3 p4 = a * D := by
  refine cancel2 hl ?_
  rw [hz] at t
  unfold D2 at t ⊢
  grind
theorem bare3 (s l a b c d e f g k x D q1 q2 q3 q4 q5 q6 : Int) (hl : l ≠ 0) (h1 : D2 a b d e = l * q1) (h2 : D2 a c d f = l * q2) (h3 : D2 a b g k = l * q3) (h4 : D2 a c g x = l * q4) (h5 : D2 d e g k = l * q5) (h6 : D2 d f g x = l * q6) (h : D3 a b c d e f g k x = l * l * D) :
    bare 3 s l [[a, b, c], [d, e, f], [g, k, x]] = s * D := by
  have eb : bare 3 s l [[a, b, c], [d, e, f], [g, k, x]] = match (if a ≠ 0 then some 0 else if d ≠ 0 then some 1 else if g ≠ 0 then some 2 else none) with
      | none => 0
      | some k' => bare 2 (if k' % 2 = 1 then -s else s) ((([[a, b, c], [d, e, f], [g, k, x]] : List (List Int)).getD k' []).headD 0) (((([[a, b, c], [d, e, f], [g, k, x]] : List (List Int)).eraseIdx k')).map fun r => clr ((([[a, b, c], [d, e, f], [g, k, x]] : List (List Int))).getD k' []) r l) := rfl
  rw [eb]
  unfold D2 at h1 h2 h3 h4 h5 h6
  by_cases ha : a = 0
  · rw [if_neg (fun z => z ha)]
    by_cases hd : d = 0
    · rw [if_neg (fun z => z hd)]
      by_cases hg : g = 0
      · rw [if_neg (fun z => z hg)]
        rw [ha, hd, hg, D3_zero] at h
        have z : D = 0 := cancel2 hl (by rw [← h, Int.mul_zero])
        rw [z, Int.mul_zero]
      · rw [if_pos hg]
        show bare 2 s g [[(g * b - a * k).fdiv l, (g * c - a * x).fdiv l], [(g * e - d * k).fdiv l, (g * f - d * x).fdiv l]] = s * D
        have f1 : g * b - a * k = l * (-q3) := by grind
        have f2 : g * c - a * x = l * (-q4) := by grind
        have f3 : g * e - d * k = l * (-q5) := by grind
        have f4 : g * f - d * x = l * (-q6) := by grind
        rw [fdiv_of hl f1, fdiv_of hl f2, fdiv_of hl f3, fdiv_of hl f4]
        refine bare2 s g _ _ _ _ D hg (can3 hl (Z := l * l * D) ?_ rfl)
        have t := chio3 g k x a b c d e f
        rw [D3_swap2, h, f1, f2, f3, f4] at t
        exact t
    · rw [if_pos hd]
      show bare 2 (-s) d [[(d * b - a * e).fdiv l, (d * c - a * f).fdiv l], [(d * k - g * e).fdiv l, (d * x - g * f).fdiv l]] = s * D
      have f1 : d * b - a * e = l * (-q1) := by grind
      have f2 : d * c - a * f = l * (-q2) := by grind
      have f3 : d * k - g * e = l * q5 := by grind
      have f4 : d * x - g * f = l * q6 := by grind
      rw [fdiv_of hl f1, fdiv_of hl f2, fdiv_of hl f3, fdiv_of hl f4]
      rw [show s * D = -s * (-D) by grind]
      refine bare2 (-s) d _ _ _ _ (-D) hd (can3 hl (Z := -(l * l * D)) ?_ (by rw [Int.mul_neg]))
      have t := chio3 d e f a b c g k x
      rw [D3_swap1, h, f1, f2, f3, f4] at t
      exact t
  · rw [if_pos ha]
    show bare 2 s a [[(a * e - d * b).fdiv l, (a * f - d * c).fdiv l], [(a * k - g * b).fdiv l, (a * x - g * c).fdiv l]] = s * D
    have f1 : a * e - d * b = l * q1 := by grind
    have f2 : a * f - d * c = l * q2 := by grind
    have f3 : a * k - g * b = l * q3 := by grind
    have f4 : a * x - g * c = l * q4 := by grind
    rw [fdiv_of hl f1, fdiv_of hl f2, fdiv_of hl f3, fdiv_of hl f4]
    refine bare2 s a _ _ _ _ D ha (can3 hl (Z := l * l * D) ?_ rfl)
    have t := chio3 a b c d e f g k x
    rw [h, f1, f2, f3, f4] at t
    exact t
/-! size 4 -/
theorem chio4 (t0 t1 t2 t3 u0 u1 u2 u3 v0 v1 v2 v3 w0 w1 w2 w3 : Int) :
    D3 (t0 * u1 - u0 * t1) (t0 * u2 - u0 * t2) (t0 * u3 - u0 * t3) (t0 * v1 - v0 * t1) (t0 * v2 - v0 * t2) (t0 * v3 - v0 * t3) (t0 * w1 - w0 * t1) (t0 * w2 - w0 * t2) (t0 * w3 - w0 * t3) =
      t0 * t0 * D4 t0 t1 t2 t3 u0 u1 u2 u3 v0 v1 v2 v3 w0 w1 w2 w3 := by
  unfold D4 D3 D2
  grind
theorem D4_at1 (t0 t1 t2 t3 u0 u1 u2 u3 v0 v1 v2 v3 w0 w1 w2 w3 : Int) : D4 u0 u1 u2 u3 t0 t1 t2 t3 v0 v1 v2 v3 w0 w1 w2 w3 = -D4 t0 t1 t2 t3 u0 u1 u2 u3 v0 v1 v2 v3 w0 w1 w2 w3 := by
  unfold D4 D3 D2
  grind
theorem D4_at2 (t0 t1 t2 t3 u0 u1 u2 u3 v0 v1 v2 v3 w0 w1 w2 w3 : Int) : D4 v0 v1 v2 v3 t0 t1 t2 t3 u0 u1 u2 u3 w0 w1 w2 w3 = D4 t0 t1 t2 t3 u0 u1 u2 u3 v0 v1 v2 v3 w0 w1 w2 w3 := by
  unfold D4 D3 D2
  grind
theorem D4_at3 (t0 t1 t2 t3 u0 u1 u2 u3 v0 v1 v2 v3 w0 w1 w2 w3 : Int) : D4 w0 w1 w2 w3 t0 t1 t2 t3 u0 u1 u2 u3 v0 v1 v2 v3 = -D4 t0 t1 t2 t3 u0 u1 u2 u3 v0 v1 v2 v3 w0 w1 w2 w3 := by
  unfold D4 D3 D2
  grind
theorem D4_zero (t1 t2 t3 u1 u2 u3 v1 v2 v3 w1 w2 w3 : Int) : D4 0 t1 t2 t3 0 u1 u2 u3 0 v1 v2 v3 0 w1 w2 w3 = 0 := by
  unfold D4 D3 D2
  grind
/-- after one step, with the pivot row t -/
theorem bare4p (s t0 t1 t2 t3 u0 u1 u2 u3 v0 v1 v2 v3 w0 w1 w2 w3 D : Int) (h0 : t0 ≠ 0) (h : D4 t0 t1 t2 t3 u0 u1 u2 u3 v0 v1 v2 v3 w0 w1 w2 w3 = D) :
    bare 3 s t0 [[(t0 * u1 - u0 * t1).fdiv 1, (t0 * u2 - u0 * t2).fdiv 1, (t0 * u3 - u0 * t3).fdiv 1], [(t0 * v1 - v0 * t1).fdiv 1, (t0 * v2 - v0 * t2).fdiv 1, (t0 * v3 - v0 * t3).fdiv 1], [(t0 * w1 - w0 * t1).fdiv 1, (t0 * w2 - w0 * t2).fdiv 1, (t0 * w3 - w0 * t3).fdiv 1]] = s * D := by
  have f : ∀ x : Int, x.fdiv 1 = x := fun x => fdiv_of (by decide) (by rw [Int.one_mul])
  simp only [f]
  refine bare3 s t0 _ _ _ _ _ _ _ _ _ D (D3 t0 t1 t2 u0 u1 u2 v0 v1 v2) (D3 t0 t1 t3 u0 u1 u3 v0 v1 v3) (D3 t0 t1 t2 u0 u1 u2 w0 w1 w2) (D3 t0 t1 t3 u0 u1 u3 w0 w1 w3) (D3 t0 t1 t2 v0 v1 v2 w0 w1 w2) (D3 t0 t1 t3 v0 v1 v3 w0 w1 w3) h0 ?_ ?_ ?_ ?_ ?_ ?_ ?_
  · exact chio3 ..
  · exact chio3 ..
  · exact chio3 ..
  · exact chio3 ..
  · exact chio3 ..
  · exact chio3 ..
  · rw [chio4, h]
theorem bare4 (s t0 t1 t2 t3 u0 u1 u2 u3 v0 v1 v2 v3 w0 w1 w2 w3 : Int) :
    bare 4 s 1 [[t0, t1, t2, t3], [u0, u1, u2, u3], [v0, v1, v2, v3], [w0, w1, w2, w3]] = s * D4 t0 t1 t2 t3 u0 u1 u2 u3 v0 v1 v2 v3 w0 w1 w2 w3 := by
  have eb : bare 4 s 1 [[t0, t1, t2, t3], [u0, u1, u2, u3], [v0, v1, v2, v3], [w0, w1, w2, w3]] = match (if t0 ≠ 0 then some 0 else if u0 ≠ 0 then some 1 else if v0 ≠ 0 then some 2 else if w0 ≠ 0 then some 3 else none) with
      | none => 0
      | some k' => bare 3 (if k' % 2 = 1 then -s else s) ((([[t0, t1, t2, t3], [u0, u1, u2, u3], [v0, v1, v2, v3], [w0, w1, w2, w3]] : List (List Int)).getD k' []).headD 0) (((([[t0, t1, t2, t3], [u0, u1, u2, u3], [v0, v1, v2, v3], [w0, w1, w2, w3]] : List (List Int)).eraseIdx k')).map fun r => clr ((([[t0, t1, t2, t3], [u0, u1, u2, u3], [v0, v1, v2, v3], [w0, w1, w2, w3]] : List (List Int))).getD k' []) r 1) := rfl
  rw [eb]
  by_cases ht : t0 = 0
  · rw [if_neg (fun z => z ht)]
    by_cases hu : u0 = 0
    · rw [if_neg (fun z => z hu)]
      by_cases hv : v0 = 0
      · rw [if_neg (fun z => z hv)]
        by_cases hw : w0 = 0
        · rw [if_neg (fun z => z hw), ht, hu, hv, hw, D4_zero, Int.mul_zero]
        · rw [if_pos hw]
          refine (bare4p (-s) w0 w1 w2 w3 t0 t1 t2 t3 u0 u1 u2 u3 v0 v1 v2 v3 _ hw rfl).trans ?_
          rw [D4_at3]
          grind
      · rw [if_pos hv]
        refine (bare4p s v0 v1 v2 v3 t0 t1 t2 t3 u0 u1 u2 u3 w0 w1 w2 w3 _ hv rfl).trans ?_
        rw [D4_at2]
    · rw [if_pos hu]
      refine (bare4p (-s) u0 u1 u2 u3 t0 t1 t2 t3 v0 v1 v2 v3 w0 w1 w2 w3 _ hu rfl).trans ?_
      rw [D4_at1]
      grind
  · rw [if_pos ht]
    exact bare4p s t0 t1 t2 t3 u0 u1 u2 u3 v0 v1 v2 v3 w0 w1 w2 w3 _ ht rfl
theorem bare3' (s a b c d e f g k x : Int) : bare 3 s 1 [[a, b, c], [d, e, f], [g, k, x]] = s * D3 a b c d e f g k x :=
  bare3 s 1 a b c d e f g k x (D3 a b c d e f g k x) _ _ _ _ _ _ (by decide) (Int.one_mul _).symm (Int.one_mul _).symm (Int.one_mul _).symm (Int.one_mul _).symm (Int.one_mul _).symm (Int.one_mul _).symm (by rw [Int.one_mul, Int.one_mul])
/-- the elimination gives the law's determinant -/
theorem bare_det {n : Nat} {m : List (List Int)} (hn : n ≤ 4) (h : Sz n m) : bare n 1 1 m = detL n m := by
  match n, hn, h with
  | 0, _, _ => exact Int.one_mul 1
  | 1, _, h =>
    obtain ⟨a, rfl⟩ := sz1 h
    rw [bare1, detL1, Int.one_mul]
  | 2, _, h =>
    obtain ⟨a, b, c, d, rfl⟩ := sz2 h
    rw [bare2 1 1 a b c d (D2 a b c d) (by decide) (Int.one_mul _).symm, detL2, Int.one_mul]
  | 3, _, h =>
    obtain ⟨a, b, c, d, e, f, g, k, x, rfl⟩ := sz3 h
    rw [bare3', detL3, Int.one_mul]
  | 4, _, h =>
    obtain ⟨a, b, c, d, e, f, g, k, l, o, p, q, r, s, t, u, rfl⟩ := sz4 h
    rw [bare4, detL4, Int.one_mul]

end
end K50
namespace K50
open PySem PySem.Spec PyProof.Rows L2 Gm
open C8 (Cal Met Mak pe_c pe_mt pe_mt0 pe_mk)
section
variable {P : Program} {w : World} {K : PySem.W.Frag} {mg : Str → Option Value} {base : Heap}
theorem paired_take {α β : Type} {F : α → β → Prop} : ∀ {xs : List α} {ys : List β} (k : Nat), Paired F xs ys → Paired F (xs.take k) (ys.take k)
  | _, _, _, .nil => by simp only [List.take_nil]; exact .nil
  | _, _, 0, .cons _ _ => by simp only [List.take_zero]; exact .nil
  | _, _, k + 1, .cons r t => by simp only [List.take_succ_cons]; exact .cons r (paired_take k t)
theorem paired_drop {α β : Type} {F : α → β → Prop} : ∀ {xs : List α} {ys : List β} (k : Nat), Paired F xs ys → Paired F (xs.drop k) (ys.drop k)
  | _, _, _, .nil => by simp only [List.drop_nil]; exact .nil
  | _, _, 0, .cons r t => .cons r t
  | _, _, k + 1, .cons r t => by simp only [List.drop_succ_cons]; exact paired_drop k t

end
end K50
namespace K50
open PySem PySem.Spec PyProof.Rows L2 Gm
open C8 (Cal Met Mak pe_c pe_mt pe_mt0 pe_mk)
section
variable {P : Program} {w : World} {K : PySem.W.Frag} {mg : Str → Option Value} {base : Heap}
/-! ### _law_minor, _law_norm -/
def upL (m : List (List Int)) (s : Nat) : List (List Int) := (m.take s).map fun r => r.take s
theorem upL_sq {n B s : Nat} {m : List (List Int)} (h : Sq n B m) (hs : s ≤ n) : Sq s B (upL m s) := by
  refine ⟨by unfold upL; rw [List.length_map, List.length_take, h.len]; omega, fun r hr => ?_, fun r hr => ?_⟩
  · obtain ⟨r', hr', rfl⟩ := List.mem_map.mp hr
    rw [List.length_take, h.row r' (List.mem_of_mem_take hr')]
    omega
  · obtain ⟨r', hr', rfl⟩ := List.mem_map.mp hr
    exact fun x hx => h.bits r' (List.mem_of_mem_take hr') x (List.mem_of_mem_take hx)

end
end K50
namespace K50
open PySem PySem.Spec PyProof.Rows L2 Gm
open C8 (Cal Met Mak pe_c pe_mt pe_mt0 pe_mk)
section
variable {P : Program} {w : World} {K : PySem.W.Frag} {mg : Str → Option Value} {base : Heap}
theorem maxK {X : Cx} (K : PySem.W.Frag) (hK : X.K = K) (hc : X.calm = true) : CallR X (.builtin "max") (rMax K) := by subst hK; exact cr_max hc
theorem lst_not {K : PySem.W.Frag} {C : Addr} : PySem.W.subIn K (.type "list") (.ref C) = some false := by
  have e : fastBuiltinMro "list" = some [.type "list", .type "object"] := by decide +kernel
  show (fastBuiltinMro "list").map (·.contains (.ref C)) = some false
  rw [e] <;> rfl
theorem non_not {K : PySem.W.Frag} {C : Addr} : PySem.W.subIn K (.type "NoneType") (.ref C) = some false := by
  have e : fastBuiltinMro "NoneType" = some [.type "NoneType", .type "object"] := by decide +kernel
  show (fastBuiltinMro "NoneType").map (·.contains (.ref C)) = some false
  rw [e] <;> rfl
/-- isinstance of a value of a built-in type, asked for an own class -/
theorem kit_own {K : PySem.W.Frag} {C : Addr} {n : String} (hc : PySem.W.isClsIn K C = true) (ht : PySem.W.typeIn K (.ref C) = some (.type "type")) (h : PySem.W.subIn K (.type n) (.ref C) = some false) : PySem.W.kitOne K (.type n) (.ref C) = some false := by
  show (if (Value.type n == Value.ref C) = true then some true else if ((PySem.W.clsIn K C).isSome && PySem.W.typeIn K (.ref C) == some (.type "type")) = true then PySem.W.subIn K (.type n) (.ref C) else none) = some false
  have e2 : ((PySem.W.clsIn K C).isSome && PySem.W.typeIn K (.ref C) == some (.type "type")) = true := by
    have e' : (PySem.W.clsIn K C).isSome = true := hc
    rw [e', ht] <;> rfl
  rw [if_neg (by simp), if_pos e2]
  exact h
theorem kit_self {K : PySem.W.Frag} {C : Addr} : PySem.W.kitOne K (.ref C) (.ref C) = some true := by
  unfold PySem.W.kitOne
  rw [if_pos (beq_self_eq_true _)]
/-! ### content -/
def gcdL (ns : List Int) : Nat := ns.foldl (fun g z => Nat.gcd g z.natAbs) 0
theorem gcdL_take {ns : List Int} {i : Nat} {z : Int} (h : ns[i]? = some z) : gcdL (ns.take (i + 1)) = Nat.gcd (gcdL (ns.take i)) z.natAbs := by
  unfold gcdL
  rw [List.take_add_one, h, List.foldl_append]
  rfl
def sp_content (K : PySem.W.Frag) : Sp := fun vs H Q _ => ∃ (a : Addr) (ns : List Int), vs = [.ref a] ∧ Gm.Seq K H a (ns.map V.int) ∧ ns.length ≤ 1000 ∧ ∀ H', Same H H' → Q (.int (gcdL ns : Nat)) H'
def posM (n : Nat) (m : List (List Int)) : Bool := (List.range n).all fun k => decide (0 < detL (k + 1) (upL m (k + 1)))
def sp_is_positive (K : PySem.W.Frag) : Sp := fun vs H Q _ => ∃ (v : V) (m : List (List Int)) (n B : Nat), vs = [v] ∧ TRows K H v m ∧ Sq n B m ∧ n ≤ 4 ∧ B ≤ 1000 ∧ ∀ H', Same H H' → Q (.bl (posM n m)) H'
theorem ok_is_positive (T : Top K mg) (hN : base.NoSeer) (hT : P.given.tree = none) : FnOk P w K mg base CX0 43 T.a_is_positive T.d_is_positive ["rows"] (sp_is_positive K) := by
  refine T.F_is_positive.ok sc_is_positive (fun vs H Q E h => ?_) (fun cdv A outer s H vs Q E hr h => ?_)
  · obtain ⟨v, m, n, B, rfl, _⟩ := h
    rfl
  · obtain ⟨v, m, n, B, rfl, ⟨a, ws, rfl, hs, hp⟩, sq, hn, hB, q⟩ := h
    have lw := Paired.length hp
    have lm := sq.len
    refine ⟨_, (pss_cons (ps_set (i := 1) sc_is_positive.nd rfl (by first | exact .inl rfl | exact .inr rfl) (pe_callTy cr_range2 (by rfl) T.z_range (by decide +kernel) (pa_cons pe_int (pa_cons (pe_op op_add (pe_callB (lenS K rfl) (by rfl) T.z_len (by decide +kernel) (pa_cons (pv 0) pa_nil)) pe_int) pa_nil))))
      (pss_one (ps_ret (pe_callB (allK K rfl rfl) (by rfl) T.z_all (by decide +kernel) (pa_cons (pe_lc (own := [("k", 2)]) (g := (gName 2)) (by rfl) sc_is_positive.nd (pi_rngv (pv 1)) ((by show BlkOk ["rows", "sizes", "k", "row"] (defScope s_is_positive) _ _; exact blkOk_by (by decide +kernel))) (fun _ _ _ _ _ => (pg_name (i := 2) sc_is_positive.nd rfl (by first | exact .inl rfl | exact .inr rfl))) (fun _ _ _ _ _ => pts_nil) (fun _ _ _ _ _ => (pe_cmpR op_gt (pe_c (cal_determinant_of T hN hT) hr (by decide) (by rfl) (pa_cons (pe_lc (own := [("row", 3)]) (g := (gName 3)) (by rfl) sc_is_positive.nd (piS K rfl (pe_slice (slTK K rfl) (pv 0) po_none (po_some (pv 2)))) ((by show BlkOk ["rows", "sizes", "k", "row"] (relS _ (defScope s_is_positive)) _ _; exact blkOk_by (by decide +kernel))) (fun _ _ _ _ _ => (pg_name (i := 3) sc_is_positive.nd rfl (by first | exact .inl rfl | exact .inr rfl))) (fun _ _ _ _ _ => pts_nil) (fun _ _ _ _ _ => (pe_slice (slTK K rfl) (pv 3) po_none (po_some (pv 2))))) pa_nil)) pe_int (nomark _)))) pa_nil))))), ?_⟩
    refine ⟨_, rfl, a, _, rfl, .inr hs, _, _, rfl, rfl, 1, _, rfl, fun p np => ?_⟩
    have sP := same_upd (o := .rng 1 ((ws.length : Int) + 1)) np
    refine ⟨_, rfl, p, 1, _, rfl, upd_same, ⟨by omega, by omega, by omega, by omega⟩, fun D hD => ?_⟩
    generalize upd H p (.rng 1 ((ws.length : Int) + 1)) = H1 at sP hD ⊢
    refine lc_all walk_range hD (by omega) (fun _ _ => trivial) (fun i v _ => v = V.bl (decide (0 < detL (i + 1) (upL m (i + 1))))) (fun _ _ _ _ _ _ _ h => h) ?_ gm_name ?_
    · rintro i x H4 H4' acc Ko hi s4 eD ⟨rfl, rfl⟩ kc
      have hi' : i < n := by omega
      have kk1 : V.int (1 + (i : Int)) = V.int ((i + 1 : Nat) : Int) := congrArg V.int (by omega)
      have sH := sP.trans s4
      refine ⟨rfl, ?_⟩
      refine ⟨_, rfl, _, rfl, ((i + 1 : Nat) : Int), kk1, ?_⟩
      refine (show rSlA K (.ref a) none (some ((i + 1 : Nat) : Int)) H4' _ from ?_)
      refine slA_take (Same.seqT sH hs) (i + 1) fun p1 H5 s5 t5 => ?_
      have hpt := paired_take (i + 1) (L2.Paired.mapP hp fun _ _ => TRow.same (sH.trans s5))
      have lwt : (ws.take (i + 1)).length = i + 1 := by rw [List.length_take]; omega
      refine ⟨p1, _, rfl, .inr t5, fun J G W hG D2 hD2 => ?_⟩
      refine lc_all W hD2 (by omega) (fun H6 s6 => hG H6 fun b _ o => s6 b o) (fun j v H6 => ∃ r, (upL m (i + 1))[j]? = some r ∧ TRow K H6 v r) (fun j v H6 H7 acc e o ⟨r, er, h⟩ => ⟨r, er, TRow.off e o h⟩) ?_ gm_name ?_
      · rintro j x H6 H6' acc2 Ko2 hj s6 eD2 ⟨rfl, ex⟩ k2
        obtain ⟨r, er, c, rfl, hc⟩ := Paired.getR hpt ex
        refine ⟨rfl, ?_⟩
        refine ⟨_, rfl, _, rfl, ((i + 1 : Nat) : Int), kk1, ?_⟩
        refine (show rSlA K (.ref c) none (some ((i + 1 : Nat) : Int)) H6' _ from ?_)
        refine slA_take (Same.seqT s6 hc) (i + 1) fun p2 H7 s7 t7 => ?_
        refine k2 _ _ s7 ⟨r.take (i + 1), by unfold upL; rw [List.getElem?_map, er]; rfl, p2, rfl, ?_⟩
        rw [List.map_take]
        exact t7
      · intro H6 l s6 eD2 hpl
        have sqU := upL_sq sq (s := i + 1) (by omega)
        have lup := sqU.len
        have hrows : IRows K H6 (.ref D2) (upL m (i + 1)) := ⟨D2, l, rfl, .inl (.inl (.inl eD2)), L2.Paired.mapP (paired_at (m := upL m (i + 1)) (by omega) hpl) fun _ _ => TRow.row⟩
        refine ⟨.ref D2, _, i + 1, B, rfl, hrows, sqU, by omega, by omega, fun H7 s7 => ?_⟩
        rw [bare_det (by omega) sqU.sz]
        refine ⟨_, _, rfl, rfl, ?_⟩
        exact kc _ _ (s5.trans (s6.trans s7)) rfl
    · intro H4 l s4 eD hpl
      have el := bools_list (f := fun i => decide (0 < detL (i + 1) (upL m (i + 1)))) hpl
      subst el
      refine ⟨D, _, rfl, .inl (.inl eD), ?_⟩
      have e : (((List.range ((ws.length : Int) + 1 - 1).toNat).map fun i => decide (0 < detL (i + 1) (upL m (i + 1)))).all id) = posM n m := by
        rw [show ((ws.length : Int) + 1 - 1).toNat = n by omega]
        unfold posM
        rw [List.all_map]
        rfl
      rw [e]
      exact q _ (sP.trans s4)
theorem cal_is_positive (T : Top K mg) (hN : base.NoSeer) (hT : P.given.tree = none) : Cal P w K mg base 43 "is_positive" (sp_is_positive K) [] := ⟨⟨_, _, _, [], ok_is_positive T hN hT, T.g_is_positive, T.F_is_positive.kp, T.b_is_positive, .nil⟩⟩

end
end K50
namespace K50
open PySem PySem.Spec PyProof.Rows L2 Gm
open C8 (Cal Met Mak pe_c pe_mt pe_mt0 pe_mk)
section
variable {P : Program} {w : World} {K : PySem.W.Frag} {mg : Str → Option Value} {base : Heap}
theorem mak_Grid_N (T : Top K mg) (hN : base.NoSeer) (hT : P.given.tree = none) : Mak P w K mg base 3 "Grid" T.C_Grid (sp_Grid_init_N K T.C_Grid) [.non] := by
  obtain ⟨ds2, vN2, bN2⟩ := T.F_Grid_init.binds1 (ps := ["self", "rows", "width"]) 2 0 (by simp) rfl fun _ _ _ _ _ _ _ us its hl hi => match us, hl, its, hi with | [_, _], _, [_], _ => ⟨_, rfl, rfl⟩
  exact ⟨⟨_, _, _, _, T.mk_Grid, ok_Grid_init_N T hN hT, T.g_Grid, bN2, vN2⟩⟩
theorem make_gridN {K : PySem.W.Frag} {C x dx : Addr} {H1 : Hp} {v : V} {m : List (List Int)} {w : Nat} {Q : VK} {E : XK} (nx : H1 x = none) (nd : H1 dx = none) (hm : IRows K H1 v m) (h0 : 0 < m.length) (hl : m.length ≤ 1000) (hw : w ≤ 1000) (hrw : ∀ r ∈ m, r.length = w) (q : ∀ H', Same H1 H' → IsGrid K C H' (.ref x) m w → Q .non H') :
    sp_Grid_init_N K C [.ref x, v, .non] (upd (upd H1 dx (.own x)) x (.ins C dx [])) Q E := by
  have s0 : Same H1 (upd (upd H1 dx (.own x)) x (.ins C dx [])) := fun b o e => by
    rw [upd_ne (ne_of_none e nx), upd_ne (ne_of_none e nd)]
    exact e
  refine ⟨x, dx, v, m, w, rfl, upd_same, hm.same s0, h0, hl, hw, hrw, fun t H' o ho ht => ?_⟩
  exact q _ (fun b u e => o _ _ (ne_of_none e nx) (s0 _ _ e)) ⟨⟨x, dx, t, rfl, ho, ht⟩, hrw⟩
theorem ne_grid {K : PySem.W.Frag} {C : Addr} {H : Hp} {u v : V} {m : List (List Int)} {w : Nat} {Q : VK} (G1 : IsGrid K C H u m w) (G2 : IsGrid K C H v m w) (q : Q (.bl false) H) : rOwnNe C (sp_Grid_eq K C) L2.E0 u v H Q := by
  obtain ⟨⟨p1, d1, t1, rfl, h1, _⟩, _⟩ := id G1
  obtain ⟨⟨p2, d2, t2, rfl, h2, _⟩, _⟩ := id G2
  refine ⟨p1, p2, d1, d2, _, _, rfl, rfl, h1, h2, _, m, w, _, m, rfl, G1, .inl ⟨w, G2, _, rfl, ?_⟩⟩
  rw [show decide (m = m ∧ w = w) = true from decide_eq_true ⟨rfl, rfl⟩]
  exact q
/-! ### checked_gram of a list -/
theorem flat_len {n B : Nat} {m : List (List Int)} (sq : Sq n B m) (hn : n ≤ 4) : m.flatten.length ≤ 1000 := by
  have h : ∀ (l : List (List Int)), (∀ r ∈ l, r.length = n) → l.flatten.length = l.length * n := by
    intro l
    induction l with
    | nil => intro _; simp
    | cons a l ih =>
      intro h
      rw [List.flatten_cons, List.length_append, ih fun r hr => h r (List.mem_cons_of_mem _ hr), h a (List.mem_cons_self ..), List.length_cons, Nat.succ_mul]
      omega
  rw [h m sq.row, sq.len]
  have := Nat.mul_le_mul hn hn
  omega
/-- what a lattice's matrix must be -/
structure Gram (n : Nat) (m : List (List Int)) : Prop where
  sq : Sq n 13 m
  n1 : 0 < n
  n4 : n ≤ 4
  sym : transp m n = m
  pos : posM n m = true
def sp_checked_gram_L (K : PySem.W.Frag) (C : Addr) : Sp := fun vs H Q _ => ∃ (a : Addr) (ws : List V) (m : List (List Int)) (n : Nat), vs = [.ref a] ∧ SqL K H a ws ∧ Paired (IRow K H) ws m ∧ Gram n m ∧ ∀ g H', Same H H' → IsGrid K C H' g m n → Q g H'
theorem ok_checked_gram_L (T : Top K mg) (hN : base.NoSeer) (hT : P.given.tree = none) : FnOk P w K mg base CX0 44 T.a_checked_gram T.d_checked_gram ["gram"] (sp_checked_gram_L K T.C_Grid) := by
  refine T.F_checked_gram.ok sc_checked_gram (fun vs H Q E h => ?_) (fun cdv A outer s H vs Q E hr h => ?_)
  · obtain ⟨a, ws, m, n, rfl, _⟩ := h
    rfl
  · obtain ⟨a, ws, m, n, rfl, hs, hp, gm, q⟩ := h
    have lw := Paired.length hp
    have lm := gm.sq.len
    have hn4 := gm.n4
    have hn1 := gm.n1
    have tyL : TyX K H (.ref a) (.type "list") := by
      obtain ⟨n, hn, ht⟩ := seq_ty (.inl hs)
      rcases hs with (h | ⟨u, h⟩) | ⟨o, its, k, h, c, d, _⟩
      · exact .base (.lst h)
      · exact .base (.frz h)
      · exact .kList h c
    refine ⟨_, (pss_cons (ps_set (i := 1) sc_checked_gram.nd rfl (by first | exact .inl rfl | exact .inr rfl) (pe_ifExp (pt_val (pe_callB (isiK K rfl) (by rfl) T.z_isinstance (by decide +kernel) (pa_cons (pv 0) (pa_cons (pe_glob (by rfl) T.g_Grid (show RelV (.ref T.C_Grid) _ from rfl)) pa_nil)))) (fldK K rfl (pv 0) rfl) (pv 0)))
      (pss_cons (ps_if (PW.pt (pw_and (pt_val (pe_callB (isiTK K rfl) (by rfl) T.z_isinstance (by decide +kernel) (pa_cons (pv 1) (pa_cons (pe_tup (pa_cons (pe_bltn (v := .ty "list") (by rfl) T.z_list (by decide +kernel) rfl) (pa_cons (pe_bltn (v := .ty "tuple") (by rfl) T.z_tuple (by decide +kernel) rfl) pa_nil))) pa_nil)))) (pw_and1 (pt_cmpR op_gt (pe_callB (lenS K rfl) (by rfl) T.z_len (by decide +kernel) (pa_cons (pv 1) pa_nil)) (pe_glob (v := V.int 4) (by rfl) T.g_MOST_ROWS ⟨_, rfl⟩) (nomark _)))))
      (pss_one ps_never)
      pss_nil)
      (pss_cons (ps_set (i := 2) sc_checked_gram.nd rfl (by first | exact .inl rfl | exact .inr rfl) (pe_ifExp (pt_val (pe_callB (isiK K rfl) (by rfl) T.z_isinstance (by decide +kernel) (pa_cons (pv 0) (pa_cons (pe_glob (by rfl) T.g_Grid (show RelV (.ref T.C_Grid) _ from rfl)) pa_nil)))) (pv 0) (pe_mk (mak_Grid_N T hN hT) hr (by decide) (by rfl) (pa_cons (pv 0) pa_nil))))
      (pss_cons (ps_if (PW.pt (pw_or (pt_cmpR op_eq (pe_callB (lenS K rfl) (by rfl) T.z_len (by decide +kernel) (pa_cons (fldK K rfl (pv 2) rfl) pa_nil)) pe_int (nomark _)) (pw_or1 (pt_cmpR ((op_ownNe (E := L2.E0) T.km_Grid T.ne_Grid T.m_Grid_eq.at_ T.m_Grid_eq.fn (ok_Grid_eq T hN hT) (hr.mono (by decide)) T.b_Grid_eq (fun _ _ _ _ h => h.elim))) (pv 2) (pe_mt0 (met_Grid_transposed T hN hT) hr (by decide) (pv 2)) (nomark _)))))
      (pss_one ps_never)
      pss_nil)
      (pss_cons (ps_if (pt_cmpR op_gt (pe_callB (maxK K rfl rfl) (by rfl) T.z_max (by decide +kernel) (pa_cons (pe_lc2 (own := [("row", 3), ("item", 4)]) (vs1 := [4]) (g := (gName 3)) (g1 := (gName 4)) (by rfl) sc_checked_gram.nd (piT K rfl (fldK K rfl (pv 2) rfl)) (by show BlkOk ["gram", "rows", "grid", "row", "item"] (defScope s_checked_gram) _ _; exact blkOk_by (by decide +kernel)) (by decide) (fun _ _ _ _ _ => (pg_name (i := 3) sc_checked_gram.nd rfl (by first | exact .inl rfl | exact .inr rfl))) (fun _ _ _ _ _ => pts_nil) (fun _ _ _ _ _ => (piT K rfl (pv 3))) (fun _ _ _ _ _ => (pg_name (i := 4) sc_checked_gram.nd rfl (by first | exact .inl rfl | exact .inr rfl))) (fun _ _ _ _ _ => pts_nil) (fun _ _ _ _ _ => (pe_callB (call_abs) (by rfl) T.z_abs (by decide +kernel) (pa_cons (pv 4) pa_nil)))) pa_nil)) (pe_glob (v := V.int 10000) (by rfl) T.g_MOST ⟨_, rfl⟩) (nomark _))
      (pss_one ps_never)
      pss_nil)
      (pss_cons (ps_if (pt_not (pt_val (pe_c (cal_is_positive T hN hT) hr (by decide) (by rfl) (pa_cons (fldK K rfl (pv 2) rfl) pa_nil))))
      (pss_one ps_never)
      pss_nil)
      (pss_one (ps_ret (pv 2))))))))), ?_⟩
    refine ⟨_, rfl, .ref a, .ref T.C_Grid, _, _, false, rfl, .own _, tyL, kit_own T.ic_Grid T.ty_Grid lst_not, false, rfl, ?_⟩
    refine iteF ?_
    refine ⟨_, rfl, ?_⟩
    -- isinstance(rows, (list, tuple)) and len(rows) > 4
    refine ⟨_, rfl, by show 2 ≤ sizeLine; decide, fun tp np => ?_⟩
    have s1 := same_upd (o := .tup [.ty "list", .ty "tuple"]) np
    have hs1 := Same.seq s1 hs
    have tyL1 : TyX K (upd H tp (.tup [.ty "list", .ty "tuple"])) (.ref a) (.type "list") := by
      rcases hs1 with (h | ⟨u, h⟩) | ⟨o, its, k, h, c, d, _⟩
      · exact .base (.lst h)
      · exact .base (.frz h)
      · exact .kList h c
    refine ⟨.ref a, tp, [.ty "list", .ty "tuple"], _, [.type "list", .type "tuple"], true, rfl, upd_same, .cons (.ty _) (.cons (.ty _) .nil), tyL1, kit_lt (.inl rfl), true, rfl, ?_⟩
    refine iteT ?_
    have hp1 := L2.Paired.mapP hp fun _ _ => IRow.same s1
    generalize upd H tp (.tup [.ty "list", .ty "tuple"]) = H1 at s1 hs1 tyL1 hp1 ⊢
    refine ⟨_, rfl, a, _, rfl, .inl hs1, _, _, rfl, rfl, _, rfl, ?_⟩
    rw [decide_eq_false (show ¬ (4 : Int) < (ws.length : Int) by omega)]
    refine iteF ?_
    -- grid
    refine ⟨_, rfl, .ref a, .ref T.C_Grid, _, _, false, rfl, .own _, tyL1, kit_own T.ic_Grid T.ty_Grid lst_not, false, rfl, ?_⟩
    refine iteF ?_
    refine ⟨_, rfl, ?_⟩
    intro gx gd ngx ngd nge
    refine make_gridN ngx ngd (m := m) ⟨a, ws, rfl, .inl hs1, hp1⟩ (by omega) (by omega) (w := n) (by omega) gm.sq.row fun H2 s2 G2 => ⟨rfl, ?_⟩
    obtain ⟨⟨p, dx, t, ep, ho, ht⟩, hrw⟩ := id G2
    cases ep
    obtain ⟨qt, wt, rfl, hq, hpt⟩ := id ht
    have lwt := Paired.length hpt
    -- len(grid.rows) == 0 or grid != grid.transposed()
    refine ⟨_, rfl, gx, _, dx, _, _, rfl, ho, T.cl_Grid, T.n_rows, flds_rows _ _, qt, _, rfl, .inr hq, rfl, _, rfl, ?_⟩
    rw [show decide (V.int (wt.length : Int) = V.int 0) = false from decide_eq_false fun z => by have := V.int.inj z; omega]
    refine iteF ?_
    refine ⟨_, rfl, _, rfl, gx, dx, _, rfl, ho, m_transposed _ _, _, m, n, rfl, G2, by omega, by omega, fun g3 H3 s3 G3 => ?_⟩
    rw [gm.sym, lm] at G3
    refine ne_grid (IsGrid.same s3 G2) G3 ⟨_, rfl, ?_⟩
    refine iteF ?_
    -- max
    have G23 := IsGrid.same s3 G2
    obtain ⟨⟨p, dx3, t3, ep, ho3, ht3⟩, _⟩ := id G23
    cases ep
    obtain ⟨qt3, wt3, rfl, hq3, hpt3⟩ := id ht3
    refine ⟨_, rfl, gx, _, dx3, _, _, rfl, ho3, T.cl_Grid, T.n_rows, flds_rows _ _, qt3, rfl, ⟨_, hq3⟩, fun D hD => ?_⟩
    refine lc2_rows (j := 3) (j1 := 4) (vs := [3, 4]) (vs1 := [4]) (te := tCB (fun xs H Q => ∃ i, xs = [V.int i] ∧ Q (V.int (if i < 0 then -i else i)) H) (tCons (tVar 4) tNil)) (f := fun z => if z < 0 then -z else z) hq3 hD hpt3 (flat_len gm.sq hn4) ?_ ?_ ?_ ?_ ?_
    · intro _; rfl
    · intro _ _; rfl
    · intro _; rfl
    · exact fun z x H Ko k => ⟨_, rfl, z, rfl, k⟩
    intro H4 s4 eD
    have lfl : 0 < (m.flatten.map fun z => if z < 0 then -z else z).length := by
      rw [List.length_map]
      cases m with
      | nil => rw [List.length_nil] at lm; omega
      | cons r m =>
        have := gm.sq.row r (List.mem_cons_self ..)
        rw [List.flatten_cons, List.length_append]
        omega
    refine ⟨D, _, rfl, .inl (.inl eD), lfl, fun mx hmx _ => ?_⟩
    have hmx2 : mx ≤ 10000 := by
      obtain ⟨z, hz, rfl⟩ := List.mem_map.mp hmx
      obtain ⟨r, hr', hzr⟩ := List.mem_flatten.mp hz
      have hb : z.natAbs < 8192 := gm.sq.bits r hr' z hzr
      split <;> omega
    refine ⟨_, _, rfl, rfl, _, rfl, ?_⟩
    rw [decide_eq_false (show ¬ (10000 : Int) < mx by omega)]
    refine iteF ?_
    -- is_positive
    have G4 := IsGrid.same s4 G23
    obtain ⟨⟨p, dx4, t4, ep, ho4, ht4⟩, _⟩ := id G4
    cases ep
    refine ⟨_, rfl, gx, _, dx4, _, _, rfl, ho4, T.cl_Grid, T.n_rows, flds_rows _ _, t4, m, n, 13, rfl, ht4, gm.sq, hn4, by decide, fun H5 s5 => ?_⟩
    rw [gm.pos]
    refine ⟨_, rfl, ?_⟩
    refine iteF ?_
    exact ⟨_, rfl, q _ H5 (s1.trans (s2.trans (s3.trans (s4.trans s5)))) (IsGrid.same s5 G4)⟩
theorem cal_checked_gram (T : Top K mg) (hN : base.NoSeer) (hT : P.given.tree = none) : Cal P w K mg base 44 "checked_gram" (sp_checked_gram_L K T.C_Grid) [] := ⟨⟨_, _, _, [], ok_checked_gram_L T hN hT, T.g_checked_gram, T.F_checked_gram.kp, T.b_checked_gram, .nil⟩⟩
/-! ### Lattice -/
def fldG (g : V) : List (Str × V) := putF "gram" g []
theorem fldG_gram (g : V) : (fldG g).lookup ("gram" : Str) = some g := by unfold fldG; rw [lookup_putF, if_pos rfl]
theorem fldG_no (g : V) {m : Str} (h : ¬ m = "gram") : (fldG g).lookup m = none := by
  unfold fldG
  rw [lookup_putF, if_neg h]
  rfl
structure IsLat (K : PySem.W.Frag) (CG CL : Addr) (H : Hp) (v : V) (m : List (List Int)) (n : Nat) : Prop where
  obj : ∃ p dx g, v = .ref p ∧ H p = some (.ins CL dx (fldG g)) ∧ IsGrid K CG H g m n
  gm : Gram n m
theorem IsLat.same {K : PySem.W.Frag} {CG CL : Addr} {H H' : Hp} {v : V} {m : List (List Int)} {n : Nat} (s : Same H H') (h : IsLat K CG CL H v m n) : IsLat K CG CL H' v m n :=
  let ⟨p, dx, g, e, ho, G⟩ := h.obj; ⟨⟨p, dx, g, e, s _ _ ho, IsGrid.same s G⟩, h.gm⟩
def sp_Lattice_init (K : PySem.W.Frag) (CG CL : Addr) : Sp := fun vs H Q _ => ∃ (p dx a : Addr) (ws : List V) (m : List (List Int)) (n : Nat), vs = [.ref p, .ref a] ∧ H p = some (.ins CL dx []) ∧ SqL K H a ws ∧ Paired (IRow K H) ws m ∧ Gram n m ∧ ∀ g H', Off p H H' → H' p = some (.ins CL dx (fldG g)) → IsGrid K CG H' g m n → Q .non H'
theorem grid_off {K : PySem.W.Frag} {C CL p dx : Addr} {H H' : Hp} {v : V} {m : List (List Int)} {w : Nat} (e : H p = some (.ins CL dx [])) (o : Off p H H') (h : IsGrid K C H v m w) : IsGrid K C H' v m w := by
  obtain ⟨⟨q, dq, t, eq, ho, ht⟩, hw⟩ := h
  have hqp : q ≠ p := by
    rintro rfl
    rw [e] at ho
    have h1 := flds_rows t w
    injection ho with ho
    injection ho with _ _ h2
    rw [← h2] at h1
    cases h1
  exact ⟨⟨q, dq, t, eq, o _ _ hqp ho, trows_off e o ht⟩, hw⟩
theorem ok_Lattice_init (T : Top K mg) (hN : base.NoSeer) (hT : P.given.tree = none) : FnOk P w K mg base CX0 45 T.a_Lattice_init T.d_Lattice_init ["self", "gram"] (sp_Lattice_init K T.C_Grid T.C_Lattice) := by
  refine T.F_Lattice_init.ok sc_Lattice_init (fun vs H Q E h => ?_) (fun cdv A outer s H vs Q E hr h => ?_)
  · obtain ⟨p, dx, a, ws, m, n, rfl, _⟩ := h
    rfl
  · obtain ⟨p, dx, a, ws, m, n, rfl, hp, hs, hpr, gm, q⟩ := h
    refine ⟨_, (pss_one (ps_fld (pv 0) (pe_c (cal_checked_gram T hN hT) hr (by decide) (by rfl) (pa_cons (pv 1) pa_nil)) rfl)), ?_⟩
    refine ⟨_, rfl, a, ws, m, n, rfl, hs, hpr, gm, fun g H1 s1 G1 => ?_⟩
    have hp1 := s1 _ _ hp
    refine ⟨_, rfl, p, T.C_Lattice, dx, [], rfl, hp1, T.cl_Lattice, T.n_gram, by show 0 < 1000; decide, ?_⟩
    exact q g _ (fun b o n e => by rw [upd_ne n]; exact s1 _ _ e) upd_same (grid_off hp1 Off.upd G1)
theorem mak_Lattice (T : Top K mg) (hN : base.NoSeer) (hT : P.given.tree = none) : Mak P w K mg base 45 "Lattice" T.C_Lattice (sp_Lattice_init K T.C_Grid T.C_Lattice) [] := ⟨⟨_, _, _, [], T.mk_Lattice, ok_Lattice_init T hN hT, T.g_Lattice, T.b_Lattice_init, .nil⟩⟩
theorem make_lat {K : PySem.W.Frag} {CG CL x dx a : Addr} {ws : List V} {H1 : Hp} {m : List (List Int)} {n : Nat} {Q : VK} {E : XK} (nx : H1 x = none) (nd : H1 dx = none) (hs : SqL K H1 a ws) (hp : Paired (IRow K H1) ws m) (gm : Gram n m) (q : ∀ H', Same H1 H' → IsLat K CG CL H' (.ref x) m n → Q .non H') :
    sp_Lattice_init K CG CL [.ref x, .ref a] (upd (upd H1 dx (.own x)) x (.ins CL dx [])) Q E := by
  have s0 : Same H1 (upd (upd H1 dx (.own x)) x (.ins CL dx [])) := fun b o e => by
    rw [upd_ne (ne_of_none e nx), upd_ne (ne_of_none e nd)]
    exact e
  refine ⟨x, dx, a, ws, m, n, rfl, upd_same, Same.seq s0 hs, L2.Paired.mapP hp fun _ _ => IRow.same s0, gm, fun g H' o ho G => ?_⟩
  exact q _ (fun b u e => o _ _ (ne_of_none e nx) (s0 _ _ e)) ⟨⟨x, dx, g, rfl, ho, G⟩, gm⟩
def sp_Lattice_rank (K : PySem.W.Frag) (CG CL : Addr) : Sp := fun vs H Q _ => ∃ v m n, vs = [v] ∧ IsLat K CG CL H v m n ∧ Q (.int n) H
theorem l_rank (g : V) : (fldG g).lookup ("rank" : Str) = none := fldG_no g (by decide +kernel)
theorem l_determinant (g : V) : (fldG g).lookup ("determinant" : Str) = none := fldG_no g (by decide +kernel)
theorem l_content (g : V) : (fldG g).lookup ("content" : Str) = none := fldG_no g (by decide +kernel)
theorem l_is_even (g : V) : (fldG g).lookup ("is_even" : Str) = none := fldG_no g (by decide +kernel)
theorem l_product (g : V) : (fldG g).lookup ("product" : Str) = none := fldG_no g (by decide +kernel)
theorem l_norm (g : V) : (fldG g).lookup ("norm" : Str) = none := fldG_no g (by decide +kernel)
def sp_Lattice_determinant (K : PySem.W.Frag) (CG CL : Addr) : Sp := fun vs H Q _ => ∃ v m n, vs = [v] ∧ IsLat K CG CL H v m n ∧ ∀ H', Same H H' → Q (.int (detL n m)) H'
def sp_Lattice_content (K : PySem.W.Frag) (CG CL : Addr) : Sp := fun vs H Q _ => ∃ v m n, vs = [v] ∧ IsLat K CG CL H v m n ∧ ∀ H', Same H H' → Q (.int (gcdL m.flatten : Nat)) H'

end
end K50
namespace K50
open PySem PySem.Spec PyProof.Rows L2 Gm
open C8 (Cal Met Mak pe_c pe_mt pe_mt0 pe_mk)
section
variable {P : Program} {w : World} {K : PySem.W.Frag} {mg : Str → Option Value} {base : Heap}
def isI : V → Bool
  | .int _ => true
  | _ => false
def Flat (v : V) : Prop := (∃ i, v = .int i) ∨ (∃ b, v = .bl b) ∨ ∃ x, v = .str x
def sp_is_integer_any : Sp := fun vs H Q _ => ∃ v, vs = [v] ∧ Flat v ∧ Q (.bl (isI v)) H
theorem ok_is_integer_any (T : Top K mg) : FnOk P w K mg base CX0 1 T.a_is_integer T.d_is_integer ["value"] sp_is_integer_any := by
  refine T.F_is_integer.ok sc_is_integer (fun vs H Q E h => ?_) (fun cdv A outer s H vs Q E hr h => ?_)
  · obtain ⟨v, rfl, _⟩ := h
    rfl
  · obtain ⟨v, rfl, f, q⟩ := h
    refine ⟨_, (pss_one (ps_ret (pe_and (pe_callB (isiK K rfl) (by rfl) T.z_isinstance (by decide +kernel) (pa_cons (pv 0) (pa_cons (pe_bltn (v := .ty "int") (by rfl) T.z_int (by decide +kernel) rfl) pa_nil))) (pe_one (pe_not (pe_callB (isiK K rfl) (by rfl) T.z_isinstance (by decide +kernel) (pa_cons (pv 0) (pa_cons (pe_bltn (v := .ty "bool") (by rfl) T.z_bool (by decide +kernel) rfl) pa_nil)))))))), ?_⟩
    rcases f with ⟨i, rfl⟩ | ⟨b, rfl⟩ | ⟨x, rfl⟩
    · refine ⟨_, rfl, .int i, .ty "int", _, _, true, rfl, .ty "int", .base (.int i), kit_ty (by decide +kernel), true, rfl, iteT ?_⟩
      exact ⟨_, rfl, .int i, .ty "bool", _, _, false, rfl, .ty "bool", .base (.int i), kit_ty (by decide +kernel), false, rfl, q⟩
    · refine ⟨_, rfl, .bl b, .ty "int", _, _, true, rfl, .ty "int", .base (.bl b), kit_ty (by decide +kernel), true, rfl, iteT ?_⟩
      exact ⟨_, rfl, .bl b, .ty "bool", _, _, true, rfl, .ty "bool", .base (.bl b), kit_ty (by decide +kernel), true, rfl, q⟩
    · refine ⟨_, rfl, .str x, .ty "int", _, _, false, rfl, .ty "int", .base (.str x), kit_ty (by decide +kernel), false, rfl, iteF ?_⟩
      exact q
theorem cal_is_integer_any (T : Top K mg) (hN : base.NoSeer) (hT : P.given.tree = none) : Cal P w K mg base 1 "is_integer" sp_is_integer_any [] := ⟨⟨_, _, _, [], ok_is_integer_any T, T.g_is_integer, T.F_is_integer.kp, T.b_is_integer, .nil⟩⟩

end
end K50
namespace K50
open PySem PySem.Spec PyProof.Rows L2 Gm
open C8 (Cal Met Mak pe_c pe_mt pe_mt0 pe_mk)
section
variable {P : Program} {w : World} {K : PySem.W.Frag} {mg : Str → Option Value} {base : Heap}
def FlatN (v : V) : Prop := Flat v ∨ v = .non
def sp_is_integer_N : Sp := fun vs H Q _ => ∃ v, vs = [v] ∧ FlatN v ∧ Q (.bl (isI v)) H
theorem ok_is_integer_N (T : Top K mg) : FnOk P w K mg base CX0 1 T.a_is_integer T.d_is_integer ["value"] sp_is_integer_N := by
  refine T.F_is_integer.ok sc_is_integer (fun vs H Q E h => ?_) (fun cdv A outer s H vs Q E hr h => ?_)
  · obtain ⟨v, rfl, _⟩ := h
    rfl
  · obtain ⟨v, rfl, f, q⟩ := h
    refine ⟨_, (pss_one (ps_ret (pe_and (pe_callB (isiK K rfl) (by rfl) T.z_isinstance (by decide +kernel) (pa_cons (pv 0) (pa_cons (pe_bltn (v := .ty "int") (by rfl) T.z_int (by decide +kernel) rfl) pa_nil))) (pe_one (pe_not (pe_callB (isiK K rfl) (by rfl) T.z_isinstance (by decide +kernel) (pa_cons (pv 0) (pa_cons (pe_bltn (v := .ty "bool") (by rfl) T.z_bool (by decide +kernel) rfl) pa_nil)))))))), ?_⟩
    rcases f with (⟨i, rfl⟩ | ⟨b, rfl⟩ | ⟨x, rfl⟩) | rfl
    · refine ⟨_, rfl, .int i, .ty "int", _, _, true, rfl, .ty "int", .base (.int i), kit_ty (by decide +kernel), true, rfl, iteT ?_⟩
      exact ⟨_, rfl, .int i, .ty "bool", _, _, false, rfl, .ty "bool", .base (.int i), kit_ty (by decide +kernel), false, rfl, q⟩
    · refine ⟨_, rfl, .bl b, .ty "int", _, _, true, rfl, .ty "int", .base (.bl b), kit_ty (by decide +kernel), true, rfl, iteT ?_⟩
      exact ⟨_, rfl, .bl b, .ty "bool", _, _, true, rfl, .ty "bool", .base (.bl b), kit_ty (by decide +kernel), true, rfl, q⟩
    · refine ⟨_, rfl, .str x, .ty "int", _, _, false, rfl, .ty "int", .base (.str x), kit_ty (by decide +kernel), false, rfl, iteF ?_⟩
      exact q
    · refine ⟨_, rfl, .non, .ty "int", _, _, false, rfl, .ty "int", .base .non, kit_ty (by decide +kernel), false, rfl, iteF ?_⟩
      exact q
theorem cal_is_integer_N (T : Top K mg) (hN : base.NoSeer) (hT : P.given.tree = none) : Cal P w K mg base 1 "is_integer" sp_is_integer_N [] := ⟨⟨_, _, _, [], ok_is_integer_N T, T.g_is_integer, T.F_is_integer.kp, T.b_is_integer, .nil⟩⟩
def sp_checked_rows_X8 (K : PySem.W.Frag) (X : Addr) : Sp := fun vs H _ E => ∃ (a b : Addr) (xs rest : List V), vs = [.ref a] ∧ Gm.Seq K H a (.ref b :: rest) ∧ Gm.Seq K H b xs ∧ (∀ x ∈ xs, FlatN x) ∧ xs.length ≤ 1000 ∧ xs.all isI = false ∧ ∀ H', Same H H' → E (.ref X) none H'
theorem ok_checked_rows_X8 (T : Top K mg) (hN : base.NoSeer) (hT : P.given.tree = none) : FnOk P w K mg base (L2N.CX P w) 2 T.a_checked_rows T.d_checked_rows ["rows"] (sp_checked_rows_X8 K T.X_Malformed) := by
  refine okN T.F_checked_rows sc_checked_rows (fun vs H Q E h => ?_) (fun cdv A outer s H vs Q E hr h => ?_)
  · obtain ⟨a, b, xs, rest, rfl, _⟩ := h
    rfl
  · obtain ⟨a, b, xs, rest, rfl, hs, hb, hf, hl, hall, q⟩ := h
    refine ⟨_, (pss_cons (ps_if (pt_not (pt_val (pe_callB (isiTK K rfl) (by rfl) T.z_isinstance (by decide +kernel) (pa_cons (pv 0) (pa_cons (pe_tup (pa_cons (pe_bltn (v := .ty "list") (by rfl) T.z_list (by decide +kernel) rfl) (pa_cons (pe_bltn (v := .ty "tuple") (by rfl) T.z_tuple (by decide +kernel) rfl) pa_nil))) pa_nil)))))
      (pss_one ps_never)
      pss_nil)
      (pss_cons (ps_for (passes_of rfl) rfl (piS K rfl (pv 0)) (pg_name (i := 1) sc_checked_rows.nd rfl (by first | exact .inl rfl | exact .inr rfl))
      (pss_cons (ps_if (pt_not (pt_val (pe_callB (isiTK K rfl) (by rfl) T.z_isinstance (by decide +kernel) (pa_cons (pv 1) (pa_cons (pe_tup (pa_cons (pe_bltn (v := .ty "list") (by rfl) T.z_list (by decide +kernel) rfl) (pa_cons (pe_bltn (v := .ty "tuple") (by rfl) T.z_tuple (by decide +kernel) rfl) pa_nil))) pa_nil)))))
      (pss_one ps_never)
      pss_nil)
      (pss_one (ps_if (pt_not (pt_val (pe_callB (allK K rfl rfl) (by rfl) T.z_all (by decide +kernel) (pa_cons (pe_lc (own := [("item", 2)]) (g := (gName 2)) (by rfl) sc_checked_rows.nd (piS K rfl (pv 1)) ((by show BlkOk ["rows", "row", "item"] (defScope s_checked_rows) _ _; exact blkOk_by (by decide +kernel))) (fun _ _ _ _ _ => (pg_name (i := 2) sc_checked_rows.nd rfl (by first | exact .inl rfl | exact .inr rfl))) (fun _ _ _ _ _ => pts_nil) (fun _ _ _ _ _ => (pe_c (cal_is_integer_N T hN hT) hr (by decide) (by rfl) (pa_cons (pv 2) pa_nil)))) pa_nil))))
      (pss_one (L2N.ps_raise rfl (L2N.takes_of rfl rfl rfl rfl) (L2N.pmk_own PySem.F.excBase_ValueError T.xX_Malformed T.gX_Malformed T.kX_Malformed (raises_own T.bX_Malformed T.tX_Malformed) (by exact rfl))))
      pss_nil))))
      (pss_one (ps_ret (pe_callTy (tupK K rfl) (by rfl) T.z_tuple (by decide +kernel) (pa_cons (pe_lc (own := [("row", 1)]) (g := (gName 1)) (by rfl) sc_checked_rows.nd (piS K rfl (pv 0)) ((by show BlkOk ["rows", "row", "item"] (defScope s_checked_rows) _ _; exact blkOk_by (by decide +kernel))) (fun _ _ _ _ _ => (pg_name (i := 1) sc_checked_rows.nd rfl (by first | exact .inl rfl | exact .inr rfl))) (fun _ _ _ _ _ => pts_nil) (fun _ _ _ _ _ => (pe_callTy (tupK K rfl) (by rfl) T.z_tuple (by decide +kernel) (pa_cons (pv 1) pa_nil)))) pa_nil)))))), ?_⟩
    refine ⟨_, rfl, by show 2 ≤ sizeLine; decide, fun p np => ?_⟩
    have s1 : Same H (upd H p (.tup [.ty "list", .ty "tuple"])) := same_upd np
    obtain ⟨n, hn, ty⟩ := seq_ty (hs.same s1)
    refine ⟨.ref a, p, [.ty "list", .ty "tuple"], _, [.type "list", .type "tuple"], true, rfl, upd_same, .cons (.ty _) (.cons (.ty _) .nil), ty, kit_lt hn, true, rfl, ?_⟩
    refine iteF ?_
    refine ⟨_, rfl, a, _, rfl, hs.same s1, fun J G W hG => ?_⟩
    generalize hH1 : upd H p (.tup [.ty "list", .ty "tuple"]) = H1 at s1 hG
    refine for_it W (fun i σ H2 => i = 0 ∧ ∃ y1 y2, σ = [some (.ref a), y1, y2] ∧ Same H1 H2) ⟨rfl, none, none, rfl, Same.refl _⟩ (fun i σ H2 _ ⟨_, _, _, _, s2⟩ => hG _ fun b _ o => s2 b o) ?_ ?_
    · rintro i x σ H2 H2' hi ⟨rfl, y1, y2, rfl, s2⟩ ⟨rfl, ex⟩
      obtain rfl : V.ref b = x := Option.some.inj ex
      refine ⟨_, rfl, by show 2 ≤ sizeLine; decide, fun p2 np2 => ?_⟩
      have s3 : Same H2' (upd H2' p2 (.tup [.ty "list", .ty "tuple"])) := same_upd np2
      have hb3 := hb.same (s1.trans (s2.trans s3))
      obtain ⟨n2, hn2, ty2⟩ := seq_ty hb3
      refine ⟨.ref b, p2, [.ty "list", .ty "tuple"], _, [.type "list", .type "tuple"], true, rfl, upd_same, .cons (.ty _) (.cons (.ty _) .nil), ty2, kit_lt hn2, true, rfl, ?_⟩
      refine iteF ?_
      refine ⟨_, rfl, b, _, rfl, hb3, fun J2 G2 W2 hG2 D hD => ?_⟩
      refine lc_all W2 hD hl (fun H4 s4 => hG2 H4 fun b _ o => s4 b o) (fun i v _ => v = .bl (isI (xs.getD i .non))) (fun _ _ _ _ _ _ _ h => h) ?_ gm_name ?_
      · rintro j y H4 H4' acc Ko hj s4 eD ⟨rfl, ey⟩ k
        have hy : y ∈ xs := List.mem_of_getElem? ey
        refine ⟨rfl, ?_⟩
        refine ⟨_, rfl, y, rfl, hf y hy, k _ _ (Same.refl _) ?_⟩
        rw [List.getD_eq_getElem?_getD, ey]
        rfl
      · intro H4 l s4 eD hl2
        refine ⟨D, (List.range xs.length).map fun i => isI (xs.getD i .non), rfl, .inl (.inl (by rw [← bools_list hl2]; exact eD)), false, ?_, ?_⟩
        · obtain ⟨x, hx, hn⟩ := List.all_eq_false.mp hall
          obtain ⟨i0, ei0⟩ := List.getElem?_of_mem hx
          have hi0 : i0 < xs.length := (List.getElem?_eq_some_iff.mp ei0).1
          rw [not_all (i := i0) hi0 (by rw [List.getD_eq_getElem?_getD, ei0]; exact Bool.eq_false_iff.mpr hn)]
        · refine iteT ?_
          exact q _ (s1.trans (s2.trans (s3.trans s4)))
    · rintro σ H2 ⟨h0, _⟩
      exact absurd h0 (by simp)

end
end K50
namespace K50
open PySem PySem.Spec PyProof.Rows L2 Gm
open C8 (Cal Met Mak pe_c pe_mt pe_mt0 pe_mk)
section
variable {P : Program} {w : World} {K : PySem.W.Frag} {mg : Str → Option Value} {base : Heap}
theorem fn_or {P : Program} {w : World} {K : PySem.W.Frag} {mg : Str → Option Value} {base : Heap} {CX : CXT} {k : Nat} {f : Addr} {fd : FuncData} {ps : List Str} {sp1 sp2 : Sp} (F1 : FnOk P w K mg base CX k f fd ps sp1) (F2 : FnOk P w K mg base CX k f fd ps sp2) : FnOk P w K mg base CX k f fd ps (fun vs H Q E => sp1 vs H Q E ∨ sp2 vs H Q E) :=
  ⟨fun vs H Q E h => h.elim (F1.len vs H Q E) (F2.len vs H Q E), fun A o s H args us vs Q E hr e b v h => h.elim (fun h => F1.run A o s H args us vs Q E hr e b v h) fun h => F2.run A o s H args us vs Q E hr e b v h⟩
/-- a value that is no list and no tuple -/
def NoSeq (v : V) : Prop := (∃ i, v = .int i) ∨ (∃ x, v = .str x) ∨ v = .non
theorem kit_no {K : PySem.W.Frag} {n : String} (h : n = "int" ∨ n = "str" ∨ n = "NoneType") : PySem.W.kitAny K (.type n) [.type "list", .type "tuple"] = some false := by
  rcases h with rfl | rfl | rfl
  all_goals exact kitAny_cons (b := false) (kit_ty (by decide +kernel)) (fun _ => kitAny_cons (b := false) (kit_ty (by decide +kernel)) (fun _ => rfl) fun e => by cases e) fun e => by cases e
theorem NoSeq.ty {K : PySem.W.Frag} {H : Hp} {v : V} (h : NoSeq v) : ∃ n, TyX K H v (.type n) ∧ (n = "int" ∨ n = "str" ∨ n = "NoneType") := by
  rcases h with ⟨i, rfl⟩ | ⟨x, rfl⟩ | rfl
  · exact ⟨"int", .base (.int i), .inl rfl⟩
  · exact ⟨"str", .base (.str x), .inr (.inl rfl)⟩
  · exact ⟨"NoneType", .base .non, .inr (.inr rfl)⟩
def sp_checked_rows_XT (K : PySem.W.Frag) (X : Addr) : Sp := fun vs H _ E => ∃ v, vs = [v] ∧ NoSeq v ∧ ∀ H', Same H H' → E (.ref X) none H'
theorem ok_checked_rows_XT (T : Top K mg) (hN : base.NoSeer) (hT : P.given.tree = none) : FnOk P w K mg base (L2N.CX P w) 2 T.a_checked_rows T.d_checked_rows ["rows"] (sp_checked_rows_XT K T.X_Malformed) := by
  refine okN T.F_checked_rows sc_checked_rows (fun vs H Q E h => ?_) (fun cdv A outer s H vs Q E hr h => ?_)
  · obtain ⟨v, rfl, _⟩ := h
    rfl
  · obtain ⟨v, rfl, hv, q⟩ := h
    refine ⟨_, (pss_cons (ps_if (pt_not (pt_val (pe_callB (isiTK K rfl) (by rfl) T.z_isinstance (by decide +kernel) (pa_cons (pv 0) (pa_cons (pe_tup (pa_cons (pe_bltn (v := .ty "list") (by rfl) T.z_list (by decide +kernel) rfl) (pa_cons (pe_bltn (v := .ty "tuple") (by rfl) T.z_tuple (by decide +kernel) rfl) pa_nil))) pa_nil)))))
      (pss_one (L2N.ps_raise rfl (L2N.takes_of rfl rfl rfl rfl) (L2N.pmk_own PySem.F.excBase_ValueError T.xX_Malformed T.gX_Malformed T.kX_Malformed (raises_own T.bX_Malformed T.tX_Malformed) (by exact rfl))))
      pss_nil)
      (pss_cons ps_never
      (pss_one ps_never))), ?_⟩
    refine ⟨_, rfl, by show 2 ≤ sizeLine; decide, fun p np => ?_⟩
    have s1 : Same H (upd H p (.tup [.ty "list", .ty "tuple"])) := same_upd np
    obtain ⟨n, ty, hn⟩ := hv.ty (K := K) (H := upd H p (.tup [.ty "list", .ty "tuple"]))
    refine ⟨v, p, [.ty "list", .ty "tuple"], _, [.type "list", .type "tuple"], false, rfl, upd_same, .cons (.ty _) (.cons (.ty _) .nil), ty, kit_no hn, false, rfl, ?_⟩
    refine iteT ?_
    exact q _ s1
def sp_Grid_init_X8 (K : PySem.W.Frag) (C X : Addr) : Sp := fun vs H _ E => ∃ (p a b : Addr) (u : V) (xs rest : List V), vs = [.ref p, .ref a, u] ∧ Gm.Seq K H a (.ref b :: rest) ∧ Gm.Seq K H b xs ∧ (∀ x ∈ xs, FlatN x) ∧ xs.length ≤ 1000 ∧ xs.all isI = false ∧ ∀ H', Same H H' → E (.ref X) none H'
theorem ok_Grid_init_X8 (T : Top K mg) (hN : base.NoSeer) (hT : P.given.tree = none) : FnOk P w K mg base (L2N.CX P w) 3 T.a_Grid_init T.d_Grid_init ["self", "rows", "width"] (sp_Grid_init_X8 K T.C_Grid T.X_Malformed) := by
  refine T.F_Grid_init.ok (CX := L2N.CX P w) sc_Grid_init (fun vs H Q E h => ?_) (fun cdv A outer s H vs Q E hr h => ?_)
  · obtain ⟨p, a, b, u, xs, rest, rfl, _⟩ := h
    rfl
  · obtain ⟨p, a, b, u, xs, rest, rfl, hs, hb, hf, hl, hall, q⟩ := h
    refine ⟨_, (pss_cons (ps_fld (pv 0) (pe_call (E := E) (ok_checked_rows_X8 T hN hT) (hr.mono (by decide)) (by rfl) T.g_checked_rows T.F_checked_rows.kp T.b_checked_rows .nil (L2N.passes_call (L2N.takes_of rfl rfl rfl rfl) (fun _ _ _ _ h => h)) (pa_cons (pv 1) pa_nil)) rfl)
      (pss_one ps_never)), ?_⟩
    exact ⟨_, rfl, a, b, xs, rest, rfl, hs, hb, hf, hl, hall, q⟩
def sp_Grid_init_XT (K : PySem.W.Frag) (C X : Addr) : Sp := fun vs H _ E => ∃ (p : Addr) (v u : V), vs = [.ref p, v, u] ∧ NoSeq v ∧ ∀ H', Same H H' → E (.ref X) none H'
theorem ok_Grid_init_XT (T : Top K mg) (hN : base.NoSeer) (hT : P.given.tree = none) : FnOk P w K mg base (L2N.CX P w) 3 T.a_Grid_init T.d_Grid_init ["self", "rows", "width"] (sp_Grid_init_XT K T.C_Grid T.X_Malformed) := by
  refine T.F_Grid_init.ok (CX := L2N.CX P w) sc_Grid_init (fun vs H Q E h => ?_) (fun cdv A outer s H vs Q E hr h => ?_)
  · obtain ⟨p, v, u, rfl, _⟩ := h
    rfl
  · obtain ⟨p, v, u, rfl, hv, q⟩ := h
    refine ⟨_, (pss_cons (ps_fld (pv 0) (pe_call (E := E) (ok_checked_rows_XT T hN hT) (hr.mono (by decide)) (by rfl) T.g_checked_rows T.F_checked_rows.kp T.b_checked_rows .nil (L2N.passes_call (L2N.takes_of rfl rfl rfl rfl) (fun _ _ _ _ h => h)) (pa_cons (pv 1) pa_nil)) rfl)
      (pss_one ps_never)), ?_⟩
    exact ⟨_, rfl, v, rfl, hv, q⟩
def sp_Grid_init_XW (K : PySem.W.Frag) (C X : Addr) : Sp := fun vs H _ E => ∃ (p dx : Addr) (v : V) (m : List (List Int)) (i : Nat), vs = [.ref p, v, .non] ∧ H p = some (.ins C dx []) ∧ IRows K H v m ∧ 0 < m.length ∧ m.length ≤ 1000 ∧ (∀ r ∈ m, r.length ≤ 1000) ∧ (∃ r0 r, m[0]? = some r0 ∧ m[i]? = some r ∧ r.length ≠ r0.length) ∧ ∀ H', Off p H H' → E (.ref X) none H'
theorem ok_Grid_init_XW (T : Top K mg) (hN : base.NoSeer) (hT : P.given.tree = none) : FnOk P w K mg base (L2N.CX P w) 3 T.a_Grid_init T.d_Grid_init ["self", "rows", "width"] (sp_Grid_init_XW K T.C_Grid T.X_Malformed) := by
  refine T.F_Grid_init.ok (CX := L2N.CX P w) sc_Grid_init (fun vs H Q E h => ?_) (fun cdv A outer s H vs Q E hr h => ?_)
  · obtain ⟨p, dx, v, m, i, rfl, _⟩ := h
    rfl
  · obtain ⟨p, dx, v, m, i, rfl, hp, hm, h0, hl, hw, hd, q⟩ := h
    refine ⟨_, (pss_cons (ps_fld (pv 0) (pe_c (cal_checked_rows T hN hT) hr (by decide) (by rfl) (pa_cons (pv 1) pa_nil)) rfl)
      (pss_one (ps_fld (pv 0) (pe_call (E := E) (ok_checked_width_NX T hN hT) (hr.mono (by decide)) (by rfl) T.g_checked_width T.F_checked_width.kp T.b_checked_width .nil (L2N.passes_call (L2N.takes_of rfl rfl rfl rfl) (fun _ _ _ _ h => h)) (pa_cons (fldK K rfl (pv 0) rfl) (pa_cons (pv 2) pa_nil))) rfl))), ?_⟩
    refine ⟨_, rfl, v, m, rfl, hm, hl, hw, fun t H1 s1 ht => ?_⟩
    have hp1 := s1 _ _ hp
    refine ⟨_, rfl, p, T.C_Grid, dx, [], rfl, hp1, T.cl_Grid, T.n_rows, by show 0 < 1000; decide, ?_⟩
    refine ⟨_, rfl, p, T.C_Grid, dx, _, t, rfl, upd_same, T.cl_Grid, T.n_rows, ?_, ?_⟩
    · rw [lookup_putF, if_pos rfl]
    have ht2 : TRows K (upd H1 p (.ins T.C_Grid dx (putF "rows" t []))) t m := trows_off hp1 Off.upd ht
    refine ⟨_, rfl, t, m, i, rfl, ht2, h0, hl, hd, fun H2 s2 => ?_⟩
    exact q _ fun b o n e => s2 _ _ (Off.upd _ _ n (s1 _ _ e))
def sp_Grid_init_XG (K : PySem.W.Frag) (C X : Addr) : Sp := fun vs H Q E => sp_Grid_init_X8 K C X vs H Q E ∨ sp_Grid_init_XT K C X vs H Q E ∨ sp_Grid_init_XW K C X vs H Q E
theorem ok_Grid_init_XG (T : Top K mg) (hN : base.NoSeer) (hT : P.given.tree = none) : FnOk P w K mg base (L2N.CX P w) 3 T.a_Grid_init T.d_Grid_init ["self", "rows", "width"] (sp_Grid_init_XG K T.C_Grid T.X_Malformed) := fn_or (ok_Grid_init_X8 T hN hT) (fn_or (ok_Grid_init_XT T hN hT) (ok_Grid_init_XW T hN hT))

end
end K50
namespace K50
open PySem PySem.Spec PyProof.Rows L2 Gm
open C8 (Cal Met Mak pe_c pe_mt pe_mt0 pe_mk)
section
variable {P : Program} {w : World} {K : PySem.W.Frag} {mg : Str → Option Value} {base : Heap}
theorem int_not {K : PySem.W.Frag} {C : Addr} : PySem.W.subIn K (.type "int") (.ref C) = some false := by
  have e : fastBuiltinMro "int" = some [.type "int", .type "object"] := by decide +kernel
  show (fastBuiltinMro "int").map (·.contains (.ref C)) = some false
  rw [e] <;> rfl
theorem str_not {K : PySem.W.Frag} {C : Addr} : PySem.W.subIn K (.type "str") (.ref C) = some false := by
  have e : fastBuiltinMro "str" = some [.type "str", .type "object"] := by decide +kernel
  show (fastBuiltinMro "str").map (·.contains (.ref C)) = some false
  rw [e] <;> rfl
/-- what Grid(gram) raises for, told at every later heap -/
def BadG (K : PySem.W.Frag) (H : Hp) (v : V) : Prop :=
  (∃ (a b : Addr) (xs rest : List V), v = .ref a ∧ Gm.Seq K H a (.ref b :: rest) ∧ rest.length ≤ 3 ∧ Gm.Seq K H b xs ∧ (∀ x ∈ xs, FlatN x) ∧ xs.length ≤ 1000 ∧ xs.all isI = false) ∨
  NoSeq v ∨ ∃ (a : Addr) (ws : List V) (m : List (List Int)) (i : Nat), v = .ref a ∧ Gm.Seq K H a ws ∧ Paired (IRow K H) ws m ∧ 0 < m.length ∧ m.length ≤ 4 ∧ (∀ r ∈ m, r.length ≤ 1000) ∧ ∃ r0 r, m[0]? = some r0 ∧ m[i]? = some r ∧ r.length ≠ r0.length
theorem BadG.same {K : PySem.W.Frag} {H H' : Hp} {v : V} (s : Same H H') (h : BadG K H v) : BadG K H' v := by
  rcases h with ⟨a, b, xs, rest, e, h1, h2, h3, h4⟩ | h | ⟨a, ws, m, i, e, h1, h2, h3⟩
  · exact .inl ⟨a, b, xs, rest, e, h1.same s, h2, h3.same s, h4⟩
  · exact .inr (.inl h)
  · exact .inr (.inr ⟨a, ws, m, i, e, h1.same s, L2.Paired.mapP h2 fun _ _ => IRow.same s, h3⟩)
theorem BadG.init {K : PySem.W.Frag} {C X x dx : Addr} {H : Hp} {v : V} {Q : VK} {E : XK} (h : BadG K H v) (nx : H x = none) (nd : H dx = none) (q : ∀ H', Same H H' → E (.ref X) none H') : sp_Grid_init_XG K C X [.ref x, v, .non] (upd (upd H dx (.own x)) x (.ins C dx [])) Q E := by
  have s0 : Same H (upd (upd H dx (.own x)) x (.ins C dx [])) := fun b o e => by
    rw [upd_ne (ne_of_none e nx), upd_ne (ne_of_none e nd)]
    exact e
  rcases h with ⟨a, b, xs, rest, rfl, h1, h2, h3, h4, h5, h6⟩ | h | ⟨a, ws, m, i, rfl, h1, h2, h3, h4, h5, h6⟩
  · exact .inl ⟨x, a, b, .non, xs, rest, rfl, h1.same s0, h3.same s0, h4, h5, h6, fun H' s => q _ (s0.trans s)⟩
  · exact .inr (.inl ⟨x, v, .non, rfl, h, fun H' s => q _ (s0.trans s)⟩)
  · exact .inr (.inr ⟨x, dx, .ref a, m, i, rfl, upd_same, ⟨a, ws, rfl, h1.same s0, L2.Paired.mapP h2 fun _ _ => IRow.same s0⟩, h3, by omega, h5, h6, fun H' o => q _ (fun b u e => o _ _ (ne_of_none e nx) (s0 _ _ e))⟩)
def sp_checked_gram_XG (K : PySem.W.Frag) (X : Addr) : Sp := fun vs H _ E => ∃ v, vs = [v] ∧ BadG K H v ∧ ∀ H', Same H H' → E (.ref X) none H'
theorem ok_checked_gram_XG (T : Top K mg) (hN : base.NoSeer) (hT : P.given.tree = none) : FnOk P w K mg base (L2N.CX P w) 44 T.a_checked_gram T.d_checked_gram ["gram"] (sp_checked_gram_XG K T.X_Malformed) := by
  refine okN T.F_checked_gram sc_checked_gram (fun vs H Q E h => ?_) (fun cdv A outer s H vs Q E hr h => ?_)
  · obtain ⟨v, rfl, _⟩ := h
    rfl
  · obtain ⟨v, rfl, hb, q⟩ := h
    obtain ⟨ds2, vN2, bN2⟩ := T.F_Grid_init.binds1 (ps := ["self", "rows", "width"]) 2 0 (by simp) rfl fun _ _ _ _ _ _ _ us its hl hi => match us, hl, its, hi with | [_, _], _, [_], _ => ⟨_, rfl, rfl⟩
    -- its type
    have hty : ∀ H', Same H H' → ∃ n, TyX K H' v (.type n) ∧ PySem.W.subIn K (.type n) (.ref T.C_Grid) = some false ∧ ((PySem.W.kitAny K (.type n) [.type "list", .type "tuple"] = some true ∧ ∃ a ws, v = .ref a ∧ Gm.Seq K H' a ws ∧ ws.length ≤ 4) ∨ PySem.W.kitAny K (.type n) [.type "list", .type "tuple"] = some false) := fun H' s' => by
      have sub : ∀ {n : String}, n = "list" ∨ n = "tuple" → PySem.W.subIn K (.type n) (.ref T.C_Grid) = some false := fun {n} h => by
        rcases h with rfl | rfl
        · exact lst_not
        · exact tup_not
      rcases hb with ⟨a, b, xs, rest, rfl, h1, h2, _⟩ | h | ⟨a, ws, m, i, rfl, h1, h2, h3, h4, _⟩
      · obtain ⟨n, hn, ty⟩ := seq_ty (h1.same s')
        exact ⟨n, ty, sub hn, .inl ⟨kit_lt hn, a, _, rfl, h1.same s', by rw [List.length_cons]; omega⟩⟩
      · obtain ⟨n, ty, hn⟩ := h.ty (K := K) (H := H')
        refine ⟨n, ty, ?_, .inr (kit_no hn)⟩
        rcases hn with rfl | rfl | rfl
        · exact int_not
        · exact str_not
        · exact non_not
      · obtain ⟨n, hn, ty⟩ := seq_ty (h1.same s')
        have := Paired.length h2
        exact ⟨n, ty, sub hn, .inl ⟨kit_lt hn, a, ws, rfl, h1.same s', by omega⟩⟩
    refine ⟨_, (pss_cons (ps_set (i := 1) sc_checked_gram.nd rfl (by first | exact .inl rfl | exact .inr rfl) (pe_ifExp (pt_val (pe_callB (isiK K rfl) (by rfl) T.z_isinstance (by decide +kernel) (pa_cons (pv 0) (pa_cons (pe_glob (by rfl) T.g_Grid (show RelV (.ref T.C_Grid) _ from rfl)) pa_nil)))) (fldK K rfl (pv 0) rfl) (pv 0)))
      (pss_cons (ps_if (PW.pt (pw_and (pt_val (pe_callB (isiTK K rfl) (by rfl) T.z_isinstance (by decide +kernel) (pa_cons (pv 1) (pa_cons (pe_tup (pa_cons (pe_bltn (v := .ty "list") (by rfl) T.z_list (by decide +kernel) rfl) (pa_cons (pe_bltn (v := .ty "tuple") (by rfl) T.z_tuple (by decide +kernel) rfl) pa_nil))) pa_nil)))) (pw_and1 (pt_cmpR op_gt (pe_callB (lenS K rfl) (by rfl) T.z_len (by decide +kernel) (pa_cons (pv 1) pa_nil)) (pe_glob (v := V.int 4) (by rfl) T.g_MOST_ROWS ⟨_, rfl⟩) (nomark _)))))
      (pss_one ps_never)
      pss_nil)
      (pss_cons (ps_set (i := 2) sc_checked_gram.nd rfl (by first | exact .inl rfl | exact .inr rfl) (pe_ifExp (pt_val (pe_callB (isiK K rfl) (by rfl) T.z_isinstance (by decide +kernel) (pa_cons (pv 0) (pa_cons (pe_glob (by rfl) T.g_Grid (show RelV (.ref T.C_Grid) _ from rfl)) pa_nil)))) (pv 0) (pe_makeS (E := fun _ => E) T.mk_Grid (ok_Grid_init_XG T hN hT) (hr.mono (by decide)) (by rfl) T.g_Grid bN2 vN2 (fun σ pins H s e s' => L2N.passes_call (L2N.takes_of rfl rfl rfl rfl) (fun _ _ _ _ h => h) pins σ H s e s') (pa_cons (pv 0) pa_nil))))
      (pss_cons ps_never
      (pss_cons ps_never
      (pss_cons ps_never
      (pss_one ps_never))))))), ?_⟩
    obtain ⟨n0, ty0, sb0, _⟩ := hty H (Same.refl _)
    refine ⟨_, rfl, v, .ref T.C_Grid, _, _, false, rfl, .own _, ty0, kit_own T.ic_Grid T.ty_Grid sb0, false, rfl, ?_⟩
    refine iteF ?_
    refine ⟨_, rfl, ?_⟩
    refine ⟨_, rfl, by show 2 ≤ sizeLine; decide, fun tp np => ?_⟩
    have s1 := same_upd (o := .tup [.ty "list", .ty "tuple"]) np
    have e1 : (upd H tp (.tup [.ty "list", .ty "tuple"])) tp = some (.tup [.ty "list", .ty "tuple"]) := upd_same
    generalize upd H tp (.tup [.ty "list", .ty "tuple"]) = H1 at s1 e1 ⊢
    obtain ⟨n1, ty1, sb1, hk⟩ := hty H1 s1
    rcases hk with ⟨hk, a, ws, rfl, hsq, hlen⟩ | hk
    · refine ⟨_, tp, [.ty "list", .ty "tuple"], _, [.type "list", .type "tuple"], true, rfl, e1, .cons (.ty _) (.cons (.ty _) .nil), ty1, hk, true, rfl, ?_⟩
      refine iteT ?_
      refine ⟨_, rfl, a, ws, rfl, hsq, _, _, rfl, rfl, _, rfl, ?_⟩
      rw [decide_eq_false (show ¬ (4 : Int) < (ws.length : Int) by omega)]
      refine iteF ?_
      refine ⟨_, rfl, .ref a, .ref T.C_Grid, _, _, false, rfl, .own _, ty1, kit_own T.ic_Grid T.ty_Grid sb1, false, rfl, ?_⟩
      refine iteF ?_
      refine ⟨_, rfl, ?_⟩
      intro gx gd ngx ngd nge
      exact (hb.same s1).init ngx ngd fun H' s => q _ (s1.trans s)
    · refine ⟨_, tp, [.ty "list", .ty "tuple"], _, [.type "list", .type "tuple"], false, rfl, e1, .cons (.ty _) (.cons (.ty _) .nil), ty1, hk, false, rfl, ?_⟩
      refine iteF ?_
      show (if false = true then _ else _)
      refine iteF ?_
      refine ⟨_, rfl, v, .ref T.C_Grid, _, _, false, rfl, .own _, ty1, kit_own T.ic_Grid T.ty_Grid sb1, false, rfl, ?_⟩
      refine iteF ?_
      refine ⟨_, rfl, ?_⟩
      intro gx gd ngx ngd nge
      exact (hb.same s1).init ngx ngd fun H' s => q _ (s1.trans s)

end
end K50
namespace K50
open PySem PySem.Spec PyProof.Rows L2 Gm
open C8 (Cal Met Mak pe_c pe_mt pe_mt0 pe_mk)
section
variable {P : Program} {w : World} {K : PySem.W.Frag} {mg : Str → Option Value} {base : Heap}
/-! ### Refused -/
def sp_Refused_init (C : Addr) : Sp := fun vs H Q _ => ∃ (a : Addr) (y : V), vs = [.ref a, y] ∧ H a = some (exo a C none) ∧ ∀ dx, H dx = none → dx ≠ a → Q .non (upd (upd H dx (exd dx [("reason", y)])) a (exo a C (some dx)))
theorem ok_Refused_init (T : Top K mg) (hN : base.NoSeer) (hT : P.given.tree = none) : FnOk P w K mg base CX0 1 T.a_Refused_init T.d_Refused_init ["self", "reason"] (sp_Refused_init T.X_Refused) := by
  refine T.F_Refused_init.ok sc_Refused_init (fun vs H Q E h => ?_) (fun cdv A outer s H vs Q E hr h => ?_)
  · obtain ⟨a, y, rfl, _⟩ := h
    rfl
  · obtain ⟨a, y, rfl, ha, q⟩ := h
    refine ⟨_, (pss_one (ps_ost (pv 0) (pv 1))), ?_⟩
    exact ⟨_, rfl, _, rfl, a, T.X_Refused, rfl, T.oX_Refused, T.nf_Refused, .inl ⟨ha, fun dx n ne => q dx n ne⟩⟩
/-- what a Refused leaves -/
def ERef (E : XK) (X : Addr) (r : Str) (H : Hp) : Prop := ∀ d H', Same H H' → H' d = some (.xd [("reason", .str r)]) → E (.ref X) (some d) H'
theorem ERef.at {E : XK} {X : Addr} {r : Str} {H H' : Hp} (s : Same H H') (h : ERef E X r H) : ERef E X r H' := fun d H2 s2 e => h d H2 (s.trans s2) e
theorem made_ref {E : XK} {X : Addr} {r : Str} {H : Hp} (h : ERef E X r H) (a : Addr) (na : H a = none) : sp_Refused_init X (.ref a :: ([.str r] ++ [])) (upd H a (exo a X none))
    (fun v H2 => v = .non ∧ ∃ (d : Addr) (fs : List (Str × V)), H2 a = some (exo a X (some d)) ∧ H2 d = some (exd d fs) ∧ H d = none ∧ E (.ref X) (some d) (upd (del H2 a) d (.xd fs))) (fun _ _ _ => False) := by
  refine ⟨a, .str r, rfl, upd_same, fun dx nd ne => ⟨rfl, dx, [("reason", .str r)], upd_same, ?_, ?_, ?_⟩⟩
  · rw [upd_ne ne, upd_same]
  · rw [upd_ne ne] at nd
    exact nd
  · refine h dx _ (fun b o e => ?_) upd_same
    have hba : b ≠ a := ne_of_none e na
    rw [upd_ne ne] at nd
    have hbd : b ≠ dx := ne_of_none e nd
    rw [upd_ne hbd, del_ne hba, upd_ne hba, upd_ne hbd, upd_ne hba]
    exact e
def sp_checked_gram_G (K : PySem.W.Frag) (C : Addr) : Sp := fun vs H Q _ => ∃ (v : V) (m : List (List Int)) (n : Nat), vs = [v] ∧ IsGrid K C H v m n ∧ Gram n m ∧ ∀ H', Same H H' → Q v H'
theorem ok_checked_gram_G (T : Top K mg) (hN : base.NoSeer) (hT : P.given.tree = none) : FnOk P w K mg base CX0 44 T.a_checked_gram T.d_checked_gram ["gram"] (sp_checked_gram_G K T.C_Grid) := by
  refine T.F_checked_gram.ok sc_checked_gram (fun vs H Q E h => ?_) (fun cdv A outer s H vs Q E hr h => ?_)
  · obtain ⟨v, m, n, rfl, _⟩ := h
    rfl
  · obtain ⟨v, m, n, rfl, G, gm, q⟩ := h
    have sq := gm.sq
    have lm := sq.len
    have hn4 := gm.n4
    have hn1 := gm.n1
    have sym := gm.sym
    obtain ⟨⟨gx, gd, t, rfl, ho, ht⟩, hrw⟩ := id G
    obtain ⟨qt, wt, rfl, hq, hpt⟩ := id ht
    have lwt := Paired.length hpt
    have tyG : TyX K H (.ref gx) (.ref T.C_Grid) := .base (.ins ho T.cl_Grid T.kc_Grid T.kg_Grid T.kt_Grid T.km_Grid)
    refine ⟨_, (pss_cons (ps_set (i := 1) sc_checked_gram.nd rfl (by first | exact .inl rfl | exact .inr rfl) (pe_ifExp (pt_val (pe_callB (isiK K rfl) (by rfl) T.z_isinstance (by decide +kernel) (pa_cons (pv 0) (pa_cons (pe_glob (by rfl) T.g_Grid (show RelV (.ref T.C_Grid) _ from rfl)) pa_nil)))) (fldK K rfl (pv 0) rfl) (pv 0)))
      (pss_cons (ps_if (PW.pt (pw_and (pt_val (pe_callB (isiTK K rfl) (by rfl) T.z_isinstance (by decide +kernel) (pa_cons (pv 1) (pa_cons (pe_tup (pa_cons (pe_bltn (v := .ty "list") (by rfl) T.z_list (by decide +kernel) rfl) (pa_cons (pe_bltn (v := .ty "tuple") (by rfl) T.z_tuple (by decide +kernel) rfl) pa_nil))) pa_nil)))) (pw_and1 (pt_cmpR op_gt (pe_callB (lenS K rfl) (by rfl) T.z_len (by decide +kernel) (pa_cons (pv 1) pa_nil)) (pe_glob (v := V.int 4) (by rfl) T.g_MOST_ROWS ⟨_, rfl⟩) (nomark _)))))
      (pss_one ps_never)
      pss_nil)
      (pss_cons (ps_set (i := 2) sc_checked_gram.nd rfl (by first | exact .inl rfl | exact .inr rfl) (pe_ifExp (pt_val (pe_callB (isiK K rfl) (by rfl) T.z_isinstance (by decide +kernel) (pa_cons (pv 0) (pa_cons (pe_glob (by rfl) T.g_Grid (show RelV (.ref T.C_Grid) _ from rfl)) pa_nil)))) (pv 0) (pe_mk (mak_Grid_N T hN hT) hr (by decide) (by rfl) (pa_cons (pv 0) pa_nil))))
      (pss_cons (ps_if (PW.pt (pw_or (pt_cmpR op_eq (pe_callB (lenS K rfl) (by rfl) T.z_len (by decide +kernel) (pa_cons (fldK K rfl (pv 2) rfl) pa_nil)) pe_int (nomark _)) (pw_or1 (pt_cmpR ((op_ownNe (E := L2.E0) T.km_Grid T.ne_Grid T.m_Grid_eq.at_ T.m_Grid_eq.fn (ok_Grid_eq T hN hT) (hr.mono (by decide)) T.b_Grid_eq (fun _ _ _ _ h => h.elim))) (pv 2) (pe_mt0 (met_Grid_transposed T hN hT) hr (by decide) (pv 2)) (nomark _)))))
      (pss_one ps_never)
      pss_nil)
      (pss_cons (ps_if (pt_cmpR op_gt (pe_callB (maxK K rfl rfl) (by rfl) T.z_max (by decide +kernel) (pa_cons (pe_lc2 (own := [("row", 3), ("item", 4)]) (vs1 := [4]) (g := (gName 3)) (g1 := (gName 4)) (by rfl) sc_checked_gram.nd (piT K rfl (fldK K rfl (pv 2) rfl)) (by show BlkOk ["gram", "rows", "grid", "row", "item"] (defScope s_checked_gram) _ _; exact blkOk_by (by decide +kernel)) (by decide) (fun _ _ _ _ _ => (pg_name (i := 3) sc_checked_gram.nd rfl (by first | exact .inl rfl | exact .inr rfl))) (fun _ _ _ _ _ => pts_nil) (fun _ _ _ _ _ => (piT K rfl (pv 3))) (fun _ _ _ _ _ => (pg_name (i := 4) sc_checked_gram.nd rfl (by first | exact .inl rfl | exact .inr rfl))) (fun _ _ _ _ _ => pts_nil) (fun _ _ _ _ _ => (pe_callB (call_abs) (by rfl) T.z_abs (by decide +kernel) (pa_cons (pv 4) pa_nil)))) pa_nil)) (pe_glob (v := V.int 10000) (by rfl) T.g_MOST ⟨_, rfl⟩) (nomark _))
      (pss_one ps_never)
      pss_nil)
      (pss_cons (ps_if (pt_not (pt_val (pe_c (cal_is_positive T hN hT) hr (by decide) (by rfl) (pa_cons (fldK K rfl (pv 2) rfl) pa_nil))))
      (pss_one ps_never)
      pss_nil)
      (pss_one (ps_ret (pv 2))))))))), ?_⟩
    refine ⟨_, rfl, .ref gx, .ref T.C_Grid, _, _, true, rfl, .own _, tyG, kit_self, true, rfl, ?_⟩
    refine iteT ?_
    refine ⟨_, rfl, gx, T.C_Grid, gd, _, _, rfl, ho, T.cl_Grid, T.n_rows, flds_rows _ _, ?_⟩
    -- isinstance(rows, (list, tuple)) and len(rows) > 4
    refine ⟨_, rfl, by show 2 ≤ sizeLine; decide, fun tp np => ?_⟩
    have s1 := same_upd (o := .tup [.ty "list", .ty "tuple"]) np
    have hq1 := Same.seqT s1 hq
    refine ⟨.ref qt, tp, [.ty "list", .ty "tuple"], _, [.type "list", .type "tuple"], true, rfl, upd_same, .cons (.ty _) (.cons (.ty _) .nil), row_ty hq1, kit_lt (.inr rfl), true, rfl, ?_⟩
    refine iteT ?_
    have G1 := IsGrid.same s1 G
    generalize upd H tp (.tup [.ty "list", .ty "tuple"]) = H1 at s1 hq1 G1 ⊢
    refine ⟨_, rfl, qt, _, rfl, .inr hq1, _, _, rfl, rfl, _, rfl, ?_⟩
    rw [decide_eq_false (show ¬ (4 : Int) < (wt.length : Int) by omega)]
    refine iteF ?_
    obtain ⟨⟨_, gd1, t1, ep, ho1, ht1⟩, _⟩ := id G1
    cases ep
    refine ⟨_, rfl, .ref gx, .ref T.C_Grid, _, _, true, rfl, .own _, .base (.ins ho1 T.cl_Grid T.kc_Grid T.kg_Grid T.kt_Grid T.km_Grid), kit_self, true, rfl, ?_⟩
    refine iteT ?_
    refine ⟨_, rfl, ?_⟩
    obtain ⟨qt1, wt1, rfl, hqt1, hpt1⟩ := id ht1
    have lwt1 := Paired.length hpt1
    refine ⟨_, rfl, gx, _, gd1, _, _, rfl, ho1, T.cl_Grid, T.n_rows, flds_rows _ _, qt1, _, rfl, .inr hqt1, rfl, _, rfl, ?_⟩
    rw [show decide (V.int (wt1.length : Int) = V.int 0) = false from decide_eq_false fun z => by have := V.int.inj z; omega]
    refine iteF ?_
    refine ⟨_, rfl, _, rfl, gx, gd1, _, rfl, ho1, m_transposed _ _, _, m, n, rfl, G1, by omega, by omega, fun g3 H3 s3 G3 => ?_⟩
    rw [sym, lm] at G3
    refine ne_grid (IsGrid.same s3 G1) G3 ⟨_, rfl, ?_⟩
    refine iteF ?_
    -- max
    have G23 := IsGrid.same s3 G1
    obtain ⟨⟨p, dx3, t3, ep, ho3, ht3⟩, _⟩ := id G23
    cases ep
    obtain ⟨qt3, wt3, rfl, hq3, hpt3⟩ := id ht3
    refine ⟨_, rfl, gx, _, dx3, _, _, rfl, ho3, T.cl_Grid, T.n_rows, flds_rows _ _, qt3, rfl, ⟨_, hq3⟩, fun D hD => ?_⟩
    refine lc2_rows (j := 3) (j1 := 4) (vs := [3, 4]) (vs1 := [4]) (te := tCB (fun xs H Q => ∃ i, xs = [V.int i] ∧ Q (V.int (if i < 0 then -i else i)) H) (tCons (tVar 4) tNil)) (f := fun z => if z < 0 then -z else z) hq3 hD hpt3 (flat_len sq hn4) ?_ ?_ ?_ ?_ ?_
    · intro _; rfl
    · intro _ _; rfl
    · intro _; rfl
    · exact fun z x H Ko k => ⟨_, rfl, z, rfl, k⟩
    intro H4 s4 eD
    have lfl : 0 < (m.flatten.map fun z => if z < 0 then -z else z).length := by
      rw [List.length_map]
      cases m with
      | nil => rw [List.length_nil] at lm; omega
      | cons r m =>
        have := sq.row r (List.mem_cons_self ..)
        rw [List.flatten_cons, List.length_append]
        omega
    refine ⟨D, _, rfl, .inl (.inl eD), lfl, fun mx hmx _ => ?_⟩
    have hmx2 : mx ≤ 10000 := by
      obtain ⟨z, hz, rfl⟩ := List.mem_map.mp hmx
      obtain ⟨r, hr', hzr⟩ := List.mem_flatten.mp hz
      have hb : z.natAbs < 8192 := sq.bits r hr' z hzr
      split <;> omega
    refine ⟨_, _, rfl, rfl, _, rfl, ?_⟩
    rw [decide_eq_false (show ¬ (10000 : Int) < mx by omega)]
    refine iteF ?_
    have G4 := IsGrid.same s4 G23
    obtain ⟨⟨p, dx4, t4, ep, ho4, ht4⟩, _⟩ := id G4
    cases ep
    refine ⟨_, rfl, gx, _, dx4, _, _, rfl, ho4, T.cl_Grid, T.n_rows, flds_rows _ _, t4, m, n, 13, rfl, ht4, sq, hn4, by decide, fun H5 s5 => ?_⟩
    rw [gm.pos]
    refine ⟨_, rfl, ?_⟩
    refine iteF ?_
    exact ⟨_, rfl, q H5 (s1.trans (s3.trans (s4.trans s5)))⟩
def sp_checked_gram_XR (K : PySem.W.Frag) (C X : Addr) : Sp := fun vs H _ E => ∃ (v : V) (m : List (List Int)) (n : Nat), vs = [v] ∧ IsGrid K C H v m n ∧ 4 < m.length ∧ ERef E X "rank" H
theorem ok_checked_gram_XR (T : Top K mg) (hN : base.NoSeer) (hT : P.given.tree = none) : FnOk P w K mg base (L2N.CX P w) 44 T.a_checked_gram T.d_checked_gram ["gram"] (sp_checked_gram_XR K T.C_Grid T.X_Refused) := by
  refine okN T.F_checked_gram sc_checked_gram (fun vs H Q E h => ?_) (fun cdv A outer s H vs Q E hr h => ?_)
  · obtain ⟨v, m, n, rfl, _⟩ := h
    rfl
  · obtain ⟨v, m, n, rfl, G, hl, q⟩ := h
    obtain ⟨⟨gx, gd, t, rfl, ho, ht⟩, hrw⟩ := id G
    obtain ⟨qt, wt, rfl, hq, hpt⟩ := id ht
    have lwt := Paired.length hpt
    have tyG : TyX K H (.ref gx) (.ref T.C_Grid) := .base (.ins ho T.cl_Grid T.kc_Grid T.kg_Grid T.kt_Grid T.km_Grid)
    refine ⟨_, (pss_cons (ps_set (i := 1) sc_checked_gram.nd rfl (by first | exact .inl rfl | exact .inr rfl) (pe_ifExp (pt_val (pe_callB (isiK K rfl) (by rfl) T.z_isinstance (by decide +kernel) (pa_cons (pv 0) (pa_cons (pe_glob (by rfl) T.g_Grid (show RelV (.ref T.C_Grid) _ from rfl)) pa_nil)))) (fldK K rfl (pv 0) rfl) (pv 0)))
      (pss_cons (ps_if (PW.pt (pw_and (pt_val (pe_callB (isiTK K rfl) (by rfl) T.z_isinstance (by decide +kernel) (pa_cons (pv 1) (pa_cons (pe_tup (pa_cons (pe_bltn (v := .ty "list") (by rfl) T.z_list (by decide +kernel) rfl) (pa_cons (pe_bltn (v := .ty "tuple") (by rfl) T.z_tuple (by decide +kernel) rfl) pa_nil))) pa_nil)))) (pw_and1 (pt_cmpR op_gt (pe_callB (lenS K rfl) (by rfl) T.z_len (by decide +kernel) (pa_cons (pv 1) pa_nil)) (pe_glob (v := V.int 4) (by rfl) T.g_MOST_ROWS ⟨_, rfl⟩) (nomark _)))))
      (pss_one (L2N.ps_raise rfl (L2N.takes_of rfl rfl rfl rfl) (pmk_oexN T.oX_Refused T.nI_Refused T.jI_Refused (ok_Refused_init T hN hT) (hr.mono (by decide)) T.b_Refused_init .nil pass0 (by rfl) T.gX_Refused (pa_cons pe_str pa_nil))))
      pss_nil)
      (pss_cons ps_never
      (pss_cons ps_never
      (pss_cons ps_never
      (pss_cons ps_never
      (pss_one ps_never))))))), ?_⟩
    refine ⟨_, rfl, .ref gx, .ref T.C_Grid, _, _, true, rfl, .own _, tyG, kit_self, true, rfl, ?_⟩
    refine iteT ?_
    refine ⟨_, rfl, gx, T.C_Grid, gd, _, _, rfl, ho, T.cl_Grid, T.n_rows, flds_rows _ _, ?_⟩
    -- isinstance(rows, (list, tuple)) and len(rows) > 4
    refine ⟨_, rfl, by show 2 ≤ sizeLine; decide, fun tp np => ?_⟩
    have s1 := same_upd (o := .tup [.ty "list", .ty "tuple"]) np
    have hq1 := Same.seqT s1 hq
    refine ⟨.ref qt, tp, [.ty "list", .ty "tuple"], _, [.type "list", .type "tuple"], true, rfl, upd_same, .cons (.ty _) (.cons (.ty _) .nil), row_ty hq1, kit_lt (.inr rfl), true, rfl, ?_⟩
    refine iteT ?_
    have G1 := IsGrid.same s1 G
    generalize upd H tp (.tup [.ty "list", .ty "tuple"]) = H1 at s1 hq1 G1 ⊢
    refine ⟨_, rfl, qt, _, rfl, .inr hq1, _, _, rfl, rfl, _, rfl, ?_⟩
    rw [decide_eq_true (show (4 : Int) < (wt.length : Int) by omega)]
    refine iteT ?_
    exact ⟨by decide, fun a na => made_ref (q.at s1) a na⟩
def sp_checked_gram_XL (K : PySem.W.Frag) (C X : Addr) : Sp := fun vs H _ E => ∃ (v : V) (m : List (List Int)) (n B : Nat), vs = [v] ∧ IsGrid K C H v m n ∧ Sq n B m ∧ 0 < n ∧ n ≤ 4 ∧ transp m n = m ∧ (∃ z ∈ m.flatten, 10000 < z) ∧ ERef E X "large" H
theorem ok_checked_gram_XL (T : Top K mg) (hN : base.NoSeer) (hT : P.given.tree = none) : FnOk P w K mg base (L2N.CX P w) 44 T.a_checked_gram T.d_checked_gram ["gram"] (sp_checked_gram_XL K T.C_Grid T.X_Refused) := by
  refine okN T.F_checked_gram sc_checked_gram (fun vs H Q E h => ?_) (fun cdv A outer s H vs Q E hr h => ?_)
  · obtain ⟨v, m, n, B, rfl, _⟩ := h
    rfl
  · obtain ⟨v, m, n, B, rfl, G, sq, hn1, hn4, sym, ⟨z0, hz0, hbig⟩, q⟩ := h
    have lm := sq.len
    obtain ⟨⟨gx, gd, t, rfl, ho, ht⟩, hrw⟩ := id G
    obtain ⟨qt, wt, rfl, hq, hpt⟩ := id ht
    have lwt := Paired.length hpt
    have tyG : TyX K H (.ref gx) (.ref T.C_Grid) := .base (.ins ho T.cl_Grid T.kc_Grid T.kg_Grid T.kt_Grid T.km_Grid)
    refine ⟨_, (pss_cons (ps_set (i := 1) sc_checked_gram.nd rfl (by first | exact .inl rfl | exact .inr rfl) (pe_ifExp (pt_val (pe_callB (isiK K rfl) (by rfl) T.z_isinstance (by decide +kernel) (pa_cons (pv 0) (pa_cons (pe_glob (by rfl) T.g_Grid (show RelV (.ref T.C_Grid) _ from rfl)) pa_nil)))) (fldK K rfl (pv 0) rfl) (pv 0)))
      (pss_cons (ps_if (PW.pt (pw_and (pt_val (pe_callB (isiTK K rfl) (by rfl) T.z_isinstance (by decide +kernel) (pa_cons (pv 1) (pa_cons (pe_tup (pa_cons (pe_bltn (v := .ty "list") (by rfl) T.z_list (by decide +kernel) rfl) (pa_cons (pe_bltn (v := .ty "tuple") (by rfl) T.z_tuple (by decide +kernel) rfl) pa_nil))) pa_nil)))) (pw_and1 (pt_cmpR op_gt (pe_callB (lenS K rfl) (by rfl) T.z_len (by decide +kernel) (pa_cons (pv 1) pa_nil)) (pe_glob (v := V.int 4) (by rfl) T.g_MOST_ROWS ⟨_, rfl⟩) (nomark _)))))
      (pss_one ps_never)
      pss_nil)
      (pss_cons (ps_set (i := 2) sc_checked_gram.nd rfl (by first | exact .inl rfl | exact .inr rfl) (pe_ifExp (pt_val (pe_callB (isiK K rfl) (by rfl) T.z_isinstance (by decide +kernel) (pa_cons (pv 0) (pa_cons (pe_glob (by rfl) T.g_Grid (show RelV (.ref T.C_Grid) _ from rfl)) pa_nil)))) (pv 0) (pe_mk (mak_Grid_N T hN hT) hr (by decide) (by rfl) (pa_cons (pv 0) pa_nil))))
      (pss_cons (ps_if (PW.pt (pw_or (pt_cmpR op_eq (pe_callB (lenS K rfl) (by rfl) T.z_len (by decide +kernel) (pa_cons (fldK K rfl (pv 2) rfl) pa_nil)) pe_int (nomark _)) (pw_or1 (pt_cmpR ((op_ownNe (E := L2.E0) T.km_Grid T.ne_Grid T.m_Grid_eq.at_ T.m_Grid_eq.fn (ok_Grid_eq T hN hT) (hr.mono (by decide)) T.b_Grid_eq (fun _ _ _ _ h => h.elim))) (pv 2) (pe_mt0 (met_Grid_transposed T hN hT) hr (by decide) (pv 2)) (nomark _)))))
      (pss_one ps_never)
      pss_nil)
      (pss_cons (ps_if (pt_cmpR op_gt (pe_callB (maxK K rfl rfl) (by rfl) T.z_max (by decide +kernel) (pa_cons (pe_lc2 (own := [("row", 3), ("item", 4)]) (vs1 := [4]) (g := (gName 3)) (g1 := (gName 4)) (by rfl) sc_checked_gram.nd (piT K rfl (fldK K rfl (pv 2) rfl)) (by show BlkOk ["gram", "rows", "grid", "row", "item"] (defScope s_checked_gram) _ _; exact blkOk_by (by decide +kernel)) (by decide) (fun _ _ _ _ _ => (pg_name (i := 3) sc_checked_gram.nd rfl (by first | exact .inl rfl | exact .inr rfl))) (fun _ _ _ _ _ => pts_nil) (fun _ _ _ _ _ => (piT K rfl (pv 3))) (fun _ _ _ _ _ => (pg_name (i := 4) sc_checked_gram.nd rfl (by first | exact .inl rfl | exact .inr rfl))) (fun _ _ _ _ _ => pts_nil) (fun _ _ _ _ _ => (pe_callB (call_abs) (by rfl) T.z_abs (by decide +kernel) (pa_cons (pv 4) pa_nil)))) pa_nil)) (pe_glob (v := V.int 10000) (by rfl) T.g_MOST ⟨_, rfl⟩) (nomark _))
      (pss_one (L2N.ps_raise rfl (L2N.takes_of rfl rfl rfl rfl) (pmk_oexN T.oX_Refused T.nI_Refused T.jI_Refused (ok_Refused_init T hN hT) (hr.mono (by decide)) T.b_Refused_init .nil pass0 (by rfl) T.gX_Refused (pa_cons pe_str pa_nil))))
      pss_nil)
      (pss_cons ps_never
      (pss_one ps_never))))))), ?_⟩
    refine ⟨_, rfl, .ref gx, .ref T.C_Grid, _, _, true, rfl, .own _, tyG, kit_self, true, rfl, ?_⟩
    refine iteT ?_
    refine ⟨_, rfl, gx, T.C_Grid, gd, _, _, rfl, ho, T.cl_Grid, T.n_rows, flds_rows _ _, ?_⟩
    -- isinstance(rows, (list, tuple)) and len(rows) > 4
    refine ⟨_, rfl, by show 2 ≤ sizeLine; decide, fun tp np => ?_⟩
    have s1 := same_upd (o := .tup [.ty "list", .ty "tuple"]) np
    have hq1 := Same.seqT s1 hq
    refine ⟨.ref qt, tp, [.ty "list", .ty "tuple"], _, [.type "list", .type "tuple"], true, rfl, upd_same, .cons (.ty _) (.cons (.ty _) .nil), row_ty hq1, kit_lt (.inr rfl), true, rfl, ?_⟩
    refine iteT ?_
    have G1 := IsGrid.same s1 G
    generalize upd H tp (.tup [.ty "list", .ty "tuple"]) = H1 at s1 hq1 G1 ⊢
    refine ⟨_, rfl, qt, _, rfl, .inr hq1, _, _, rfl, rfl, _, rfl, ?_⟩
    rw [decide_eq_false (show ¬ (4 : Int) < (wt.length : Int) by omega)]
    refine iteF ?_
    obtain ⟨⟨_, gd1, t1, ep, ho1, ht1⟩, _⟩ := id G1
    cases ep
    refine ⟨_, rfl, .ref gx, .ref T.C_Grid, _, _, true, rfl, .own _, .base (.ins ho1 T.cl_Grid T.kc_Grid T.kg_Grid T.kt_Grid T.km_Grid), kit_self, true, rfl, ?_⟩
    refine iteT ?_
    refine ⟨_, rfl, ?_⟩
    obtain ⟨qt1, wt1, rfl, hqt1, hpt1⟩ := id ht1
    have lwt1 := Paired.length hpt1
    refine ⟨_, rfl, gx, _, gd1, _, _, rfl, ho1, T.cl_Grid, T.n_rows, flds_rows _ _, qt1, _, rfl, .inr hqt1, rfl, _, rfl, ?_⟩
    rw [show decide (V.int (wt1.length : Int) = V.int 0) = false from decide_eq_false fun z => by have := V.int.inj z; omega]
    refine iteF ?_
    refine ⟨_, rfl, _, rfl, gx, gd1, _, rfl, ho1, m_transposed _ _, _, m, n, rfl, G1, by omega, by omega, fun g3 H3 s3 G3 => ?_⟩
    rw [sym, lm] at G3
    refine ne_grid (IsGrid.same s3 G1) G3 ⟨_, rfl, ?_⟩
    refine iteF ?_
    -- max
    have G23 := IsGrid.same s3 G1
    obtain ⟨⟨p, dx3, t3, ep, ho3, ht3⟩, _⟩ := id G23
    cases ep
    obtain ⟨qt3, wt3, rfl, hq3, hpt3⟩ := id ht3
    refine ⟨_, rfl, gx, _, dx3, _, _, rfl, ho3, T.cl_Grid, T.n_rows, flds_rows _ _, qt3, rfl, ⟨_, hq3⟩, fun D hD => ?_⟩
    refine lc2_rows (j := 3) (j1 := 4) (vs := [3, 4]) (vs1 := [4]) (te := tCB (fun xs H Q => ∃ i, xs = [V.int i] ∧ Q (V.int (if i < 0 then -i else i)) H) (tCons (tVar 4) tNil)) (f := fun z => if z < 0 then -z else z) hq3 hD hpt3 (flat_len sq hn4) ?_ ?_ ?_ ?_ ?_
    · intro _; rfl
    · intro _ _; rfl
    · intro _; rfl
    · exact fun z x H Ko k => ⟨_, rfl, z, rfl, k⟩
    intro H4 s4 eD
    have lfl : 0 < (m.flatten.map fun z => if z < 0 then -z else z).length := by
      rw [List.length_map]
      cases m with
      | nil => rw [List.length_nil] at lm; omega
      | cons r m =>
        have := sq.row r (List.mem_cons_self ..)
        rw [List.flatten_cons, List.length_append]
        omega
    refine ⟨D, _, rfl, .inl (.inl eD), lfl, fun mx hmx hge => ?_⟩
    have hmx2 : 10000 < mx := by
      have := hge (if z0 < 0 then -z0 else z0) (List.mem_map.mpr ⟨z0, hz0, rfl⟩)
      rw [if_neg (by omega)] at this
      omega
    refine ⟨_, _, rfl, rfl, _, rfl, ?_⟩
    rw [decide_eq_true hmx2]
    refine iteT ?_
    exact ⟨by decide, fun a na => made_ref (q.at (s1.trans (s3.trans s4))) a na⟩

end
end K50
namespace K50
open PySem PySem.Spec PyProof.Rows L2 Gm
open C8 (Cal Met Mak pe_c pe_mt pe_mt0 pe_mk)
section
variable {P : Program} {w : World} {K : PySem.W.Frag} {mg : Str → Option Value} {base : Heap}
def sp_checked_gram_SA (K : PySem.W.Frag) (C X : Addr) : Sp := fun vs H _ E => ∃ (a : Addr) (ws : List V) (m : List (List Int)) (n : Nat), vs = [.ref a] ∧ Gm.Seq K H a ws ∧ Paired (IRow K H) ws m ∧ 0 < m.length ∧ m.length ≤ 4 ∧ n ≤ 100 ∧ (∀ r ∈ m, r.length = n) ∧ ¬ (m = transp m n ∧ n = m.length) ∧ ∀ H', Same H H' → E (.ref X) none H'
theorem ok_checked_gram_SA (T : Top K mg) (hN : base.NoSeer) (hT : P.given.tree = none) : FnOk P w K mg base (L2N.CX P w) 44 T.a_checked_gram T.d_checked_gram ["gram"] (sp_checked_gram_SA K T.C_Grid T.X_Malformed) := by
  refine okN T.F_checked_gram sc_checked_gram (fun vs H Q E h => ?_) (fun cdv A outer s H vs Q E hr h => ?_)
  · obtain ⟨a, ws, m, n, rfl, _⟩ := h
    rfl
  · obtain ⟨a, ws, m, n, rfl, hs, hp, h0, h4, hn100, hrow, hne, q⟩ := h
    have lw := Paired.length hp
    have sub : ∀ {n : String}, n = "list" ∨ n = "tuple" → PySem.W.subIn K (.type n) (.ref T.C_Grid) = some false := fun {n} h => by
      rcases h with rfl | rfl
      · exact lst_not
      · exact tup_not
    obtain ⟨t0, ht0, ty0⟩ := seq_ty hs
    refine ⟨_, (pss_cons (ps_set (i := 1) sc_checked_gram.nd rfl (by first | exact .inl rfl | exact .inr rfl) (pe_ifExp (pt_val (pe_callB (isiK K rfl) (by rfl) T.z_isinstance (by decide +kernel) (pa_cons (pv 0) (pa_cons (pe_glob (by rfl) T.g_Grid (show RelV (.ref T.C_Grid) _ from rfl)) pa_nil)))) (fldK K rfl (pv 0) rfl) (pv 0)))
      (pss_cons (ps_if (PW.pt (pw_and (pt_val (pe_callB (isiTK K rfl) (by rfl) T.z_isinstance (by decide +kernel) (pa_cons (pv 1) (pa_cons (pe_tup (pa_cons (pe_bltn (v := .ty "list") (by rfl) T.z_list (by decide +kernel) rfl) (pa_cons (pe_bltn (v := .ty "tuple") (by rfl) T.z_tuple (by decide +kernel) rfl) pa_nil))) pa_nil)))) (pw_and1 (pt_cmpR op_gt (pe_callB (lenS K rfl) (by rfl) T.z_len (by decide +kernel) (pa_cons (pv 1) pa_nil)) (pe_glob (v := V.int 4) (by rfl) T.g_MOST_ROWS ⟨_, rfl⟩) (nomark _)))))
      (pss_one ps_never)
      pss_nil)
      (pss_cons (ps_set (i := 2) sc_checked_gram.nd rfl (by first | exact .inl rfl | exact .inr rfl) (pe_ifExp (pt_val (pe_callB (isiK K rfl) (by rfl) T.z_isinstance (by decide +kernel) (pa_cons (pv 0) (pa_cons (pe_glob (by rfl) T.g_Grid (show RelV (.ref T.C_Grid) _ from rfl)) pa_nil)))) (pv 0) (pe_mk (mak_Grid_N T hN hT) hr (by decide) (by rfl) (pa_cons (pv 0) pa_nil))))
      (pss_cons (ps_if (PW.pt (pw_or (pt_cmpR op_eq (pe_callB (lenS K rfl) (by rfl) T.z_len (by decide +kernel) (pa_cons (fldK K rfl (pv 2) rfl) pa_nil)) pe_int (nomark _)) (pw_or1 (pt_cmpR ((op_ownNe (E := L2.E0) T.km_Grid T.ne_Grid T.m_Grid_eq.at_ T.m_Grid_eq.fn (ok_Grid_eq T hN hT) (hr.mono (by decide)) T.b_Grid_eq (fun _ _ _ _ h => h.elim))) (pv 2) (pe_mt0 (met_Grid_transposed T hN hT) hr (by decide) (pv 2)) (nomark _)))))
      (pss_one (L2N.ps_raise rfl (L2N.takes_of rfl rfl rfl rfl) (L2N.pmk_own PySem.F.excBase_ValueError T.xX_Malformed T.gX_Malformed T.kX_Malformed (raises_own T.bX_Malformed T.tX_Malformed) (by exact rfl))))
      pss_nil)
      (pss_cons ps_never
      (pss_cons ps_never
      (pss_one ps_never))))))), ?_⟩
    refine ⟨_, rfl, .ref a, .ref T.C_Grid, _, _, false, rfl, .own _, ty0, kit_own T.ic_Grid T.ty_Grid (sub ht0), false, rfl, ?_⟩
    refine iteF ?_
    refine ⟨_, rfl, ?_⟩
    refine ⟨_, rfl, by show 2 ≤ sizeLine; decide, fun tp np => ?_⟩
    have s1 := same_upd (o := .tup [.ty "list", .ty "tuple"]) np
    have hs1 := hs.same s1
    obtain ⟨t1, ht1, ty1⟩ := seq_ty hs1
    refine ⟨.ref a, tp, [.ty "list", .ty "tuple"], _, [.type "list", .type "tuple"], true, rfl, upd_same, .cons (.ty _) (.cons (.ty _) .nil), ty1, kit_lt ht1, true, rfl, ?_⟩
    refine iteT ?_
    have hp1 := L2.Paired.mapP hp fun _ _ => IRow.same s1
    generalize upd H tp (.tup [.ty "list", .ty "tuple"]) = H1 at s1 hs1 ty1 hp1 ⊢
    refine ⟨_, rfl, a, _, rfl, hs1, _, _, rfl, rfl, _, rfl, ?_⟩
    rw [decide_eq_false (show ¬ (4 : Int) < (ws.length : Int) by omega)]
    refine iteF ?_
    refine ⟨_, rfl, .ref a, .ref T.C_Grid, _, _, false, rfl, .own _, ty1, kit_own T.ic_Grid T.ty_Grid (sub ht1), false, rfl, ?_⟩
    refine iteF ?_
    refine ⟨_, rfl, ?_⟩
    intro gx gd ngx ngd nge
    refine make_gridN ngx ngd (m := m) ⟨a, ws, rfl, hs1, hp1⟩ (by omega) (by omega) (w := n) (by omega) hrow fun H2 s2 G2 => ⟨rfl, ?_⟩
    obtain ⟨⟨p, dx, t, ep, ho, ht⟩, hrw⟩ := id G2
    cases ep
    obtain ⟨qt, wt, rfl, hq, hpt⟩ := id ht
    have lwt := Paired.length hpt
    refine ⟨_, rfl, gx, _, dx, _, _, rfl, ho, T.cl_Grid, T.n_rows, flds_rows _ _, qt, _, rfl, .inr hq, rfl, _, rfl, ?_⟩
    rw [show decide (V.int (wt.length : Int) = V.int 0) = false from decide_eq_false fun z => by have := V.int.inj z; omega]
    refine iteF ?_
    refine ⟨_, rfl, _, rfl, gx, dx, _, rfl, ho, m_transposed _ _, _, m, n, rfl, G2, by omega, by omega, fun g3 H3 s3 G3 => ?_⟩
    obtain ⟨⟨p1, d1, t1', e1, h1, _⟩, _⟩ := id (IsGrid.same s3 G2)
    obtain ⟨⟨p2, d2, t2', rfl, h2, _⟩, _⟩ := id G3
    cases e1
    refine ⟨gx, p2, d1, d2, _, _, rfl, rfl, h1, h2, _, m, n, _, transp m n, rfl, IsGrid.same s3 G2, .inl ⟨m.length, G3, _, rfl, ?_⟩⟩
    rw [decide_eq_false hne]
    refine ⟨_, rfl, ?_⟩
    refine iteT ?_
    exact q _ (s1.trans (s2.trans s3))
def sp_checked_gram_SP (K : PySem.W.Frag) (C X : Addr) : Sp := fun vs H _ E => ∃ (a : Addr) (ws : List V) (m : List (List Int)) (n : Nat), vs = [.ref a] ∧ Gm.Seq K H a ws ∧ Paired (IRow K H) ws m ∧ (∃ B, Sq n B m ∧ B ≤ 13) ∧ 0 < n ∧ n ≤ 4 ∧ transp m n = m ∧ (∀ r ∈ m, ∀ x ∈ r, x.natAbs ≤ 10000) ∧ posM n m = false ∧ ∀ H', Same H H' → E (.ref X) none H'
theorem ok_checked_gram_SP (T : Top K mg) (hN : base.NoSeer) (hT : P.given.tree = none) : FnOk P w K mg base (L2N.CX P w) 44 T.a_checked_gram T.d_checked_gram ["gram"] (sp_checked_gram_SP K T.C_Grid T.X_Malformed) := by
  refine okN T.F_checked_gram sc_checked_gram (fun vs H Q E h => ?_) (fun cdv A outer s H vs Q E hr h => ?_)
  · obtain ⟨a, ws, m, n, rfl, _⟩ := h
    rfl
  · obtain ⟨a, ws, m, n, rfl, hs, hp, ⟨B, sq, hB⟩, hn1, hn4, sym, hb, hpos, q⟩ := h
    have lm := sq.len
    have hrow := sq.row
    have lw := Paired.length hp
    have sub : ∀ {n : String}, n = "list" ∨ n = "tuple" → PySem.W.subIn K (.type n) (.ref T.C_Grid) = some false := fun {n} h => by
      rcases h with rfl | rfl
      · exact lst_not
      · exact tup_not
    obtain ⟨t0, ht0, ty0⟩ := seq_ty hs
    refine ⟨_, (pss_cons (ps_set (i := 1) sc_checked_gram.nd rfl (by first | exact .inl rfl | exact .inr rfl) (pe_ifExp (pt_val (pe_callB (isiK K rfl) (by rfl) T.z_isinstance (by decide +kernel) (pa_cons (pv 0) (pa_cons (pe_glob (by rfl) T.g_Grid (show RelV (.ref T.C_Grid) _ from rfl)) pa_nil)))) (fldK K rfl (pv 0) rfl) (pv 0)))
      (pss_cons (ps_if (PW.pt (pw_and (pt_val (pe_callB (isiTK K rfl) (by rfl) T.z_isinstance (by decide +kernel) (pa_cons (pv 1) (pa_cons (pe_tup (pa_cons (pe_bltn (v := .ty "list") (by rfl) T.z_list (by decide +kernel) rfl) (pa_cons (pe_bltn (v := .ty "tuple") (by rfl) T.z_tuple (by decide +kernel) rfl) pa_nil))) pa_nil)))) (pw_and1 (pt_cmpR op_gt (pe_callB (lenS K rfl) (by rfl) T.z_len (by decide +kernel) (pa_cons (pv 1) pa_nil)) (pe_glob (v := V.int 4) (by rfl) T.g_MOST_ROWS ⟨_, rfl⟩) (nomark _)))))
      (pss_one ps_never)
      pss_nil)
      (pss_cons (ps_set (i := 2) sc_checked_gram.nd rfl (by first | exact .inl rfl | exact .inr rfl) (pe_ifExp (pt_val (pe_callB (isiK K rfl) (by rfl) T.z_isinstance (by decide +kernel) (pa_cons (pv 0) (pa_cons (pe_glob (by rfl) T.g_Grid (show RelV (.ref T.C_Grid) _ from rfl)) pa_nil)))) (pv 0) (pe_mk (mak_Grid_N T hN hT) hr (by decide) (by rfl) (pa_cons (pv 0) pa_nil))))
      (pss_cons (ps_if (PW.pt (pw_or (pt_cmpR op_eq (pe_callB (lenS K rfl) (by rfl) T.z_len (by decide +kernel) (pa_cons (fldK K rfl (pv 2) rfl) pa_nil)) pe_int (nomark _)) (pw_or1 (pt_cmpR ((op_ownNe (E := L2.E0) T.km_Grid T.ne_Grid T.m_Grid_eq.at_ T.m_Grid_eq.fn (ok_Grid_eq T hN hT) (hr.mono (by decide)) T.b_Grid_eq (fun _ _ _ _ h => h.elim))) (pv 2) (pe_mt0 (met_Grid_transposed T hN hT) hr (by decide) (pv 2)) (nomark _)))))
      (pss_one ps_never)
      pss_nil)
      (pss_cons (ps_if (pt_cmpR op_gt (pe_callB (maxK K rfl rfl) (by rfl) T.z_max (by decide +kernel) (pa_cons (pe_lc2 (own := [("row", 3), ("item", 4)]) (vs1 := [4]) (g := (gName 3)) (g1 := (gName 4)) (by rfl) sc_checked_gram.nd (piT K rfl (fldK K rfl (pv 2) rfl)) (by show BlkOk ["gram", "rows", "grid", "row", "item"] (defScope s_checked_gram) _ _; exact blkOk_by (by decide +kernel)) (by decide) (fun _ _ _ _ _ => (pg_name (i := 3) sc_checked_gram.nd rfl (by first | exact .inl rfl | exact .inr rfl))) (fun _ _ _ _ _ => pts_nil) (fun _ _ _ _ _ => (piT K rfl (pv 3))) (fun _ _ _ _ _ => (pg_name (i := 4) sc_checked_gram.nd rfl (by first | exact .inl rfl | exact .inr rfl))) (fun _ _ _ _ _ => pts_nil) (fun _ _ _ _ _ => (pe_callB (call_abs) (by rfl) T.z_abs (by decide +kernel) (pa_cons (pv 4) pa_nil)))) pa_nil)) (pe_glob (v := V.int 10000) (by rfl) T.g_MOST ⟨_, rfl⟩) (nomark _))
      (pss_one ps_never)
      pss_nil)
      (pss_cons (ps_if (pt_not (pt_val (pe_c (cal_is_positive T hN hT) hr (by decide) (by rfl) (pa_cons (fldK K rfl (pv 2) rfl) pa_nil))))
      (pss_one (L2N.ps_raise rfl (L2N.takes_of rfl rfl rfl rfl) (L2N.pmk_own PySem.F.excBase_ValueError T.xX_Malformed T.gX_Malformed T.kX_Malformed (raises_own T.bX_Malformed T.tX_Malformed) (by exact rfl))))
      pss_nil)
      (pss_one ps_never))))))), ?_⟩
    refine ⟨_, rfl, .ref a, .ref T.C_Grid, _, _, false, rfl, .own _, ty0, kit_own T.ic_Grid T.ty_Grid (sub ht0), false, rfl, ?_⟩
    refine iteF ?_
    refine ⟨_, rfl, ?_⟩
    refine ⟨_, rfl, by show 2 ≤ sizeLine; decide, fun tp np => ?_⟩
    have s1 := same_upd (o := .tup [.ty "list", .ty "tuple"]) np
    have hs1 := hs.same s1
    obtain ⟨t1, ht1, ty1⟩ := seq_ty hs1
    refine ⟨.ref a, tp, [.ty "list", .ty "tuple"], _, [.type "list", .type "tuple"], true, rfl, upd_same, .cons (.ty _) (.cons (.ty _) .nil), ty1, kit_lt ht1, true, rfl, ?_⟩
    refine iteT ?_
    have hp1 := L2.Paired.mapP hp fun _ _ => IRow.same s1
    generalize upd H tp (.tup [.ty "list", .ty "tuple"]) = H1 at s1 hs1 ty1 hp1 ⊢
    refine ⟨_, rfl, a, _, rfl, hs1, _, _, rfl, rfl, _, rfl, ?_⟩
    rw [decide_eq_false (show ¬ (4 : Int) < (ws.length : Int) by omega)]
    refine iteF ?_
    refine ⟨_, rfl, .ref a, .ref T.C_Grid, _, _, false, rfl, .own _, ty1, kit_own T.ic_Grid T.ty_Grid (sub ht1), false, rfl, ?_⟩
    refine iteF ?_
    refine ⟨_, rfl, ?_⟩
    intro gx gd ngx ngd nge
    refine make_gridN ngx ngd (m := m) ⟨a, ws, rfl, hs1, hp1⟩ (by omega) (by omega) (w := n) (by omega) hrow fun H2 s2 G2 => ⟨rfl, ?_⟩
    obtain ⟨⟨p, dx, t, ep, ho, ht⟩, hrw⟩ := id G2
    cases ep
    obtain ⟨qt, wt, rfl, hq, hpt⟩ := id ht
    have lwt := Paired.length hpt
    refine ⟨_, rfl, gx, _, dx, _, _, rfl, ho, T.cl_Grid, T.n_rows, flds_rows _ _, qt, _, rfl, .inr hq, rfl, _, rfl, ?_⟩
    rw [show decide (V.int (wt.length : Int) = V.int 0) = false from decide_eq_false fun z => by have := V.int.inj z; omega]
    refine iteF ?_
    refine ⟨_, rfl, _, rfl, gx, dx, _, rfl, ho, m_transposed _ _, _, m, n, rfl, G2, by omega, by omega, fun g3 H3 s3 G3 => ?_⟩
    rw [sym, lm] at G3
    refine ne_grid (IsGrid.same s3 G2) G3 ⟨_, rfl, ?_⟩
    refine iteF ?_
    have G23 := IsGrid.same s3 G2
    obtain ⟨⟨p, dx3, t3, ep, ho3, ht3⟩, _⟩ := id G23
    cases ep
    obtain ⟨qt3, wt3, rfl, hq3, hpt3⟩ := id ht3
    refine ⟨_, rfl, gx, _, dx3, _, _, rfl, ho3, T.cl_Grid, T.n_rows, flds_rows _ _, qt3, rfl, ⟨_, hq3⟩, fun D hD => ?_⟩
    refine lc2_rows (j := 3) (j1 := 4) (vs := [3, 4]) (vs1 := [4]) (te := tCB (fun xs H Q => ∃ i, xs = [V.int i] ∧ Q (V.int (if i < 0 then -i else i)) H) (tCons (tVar 4) tNil)) (f := fun z => if z < 0 then -z else z) hq3 hD hpt3 (flat_len sq hn4) ?_ ?_ ?_ ?_ ?_
    · intro _; rfl
    · intro _ _; rfl
    · intro _; rfl
    · exact fun z x H Ko k => ⟨_, rfl, z, rfl, k⟩
    intro H4 s4 eD
    have lfl : 0 < (m.flatten.map fun z => if z < 0 then -z else z).length := by
      rw [List.length_map]
      cases m with
      | nil => rw [List.length_nil] at lm; omega
      | cons r m =>
        have := sq.row r (List.mem_cons_self ..)
        rw [List.flatten_cons, List.length_append]
        omega
    refine ⟨D, _, rfl, .inl (.inl eD), lfl, fun mx hmx _ => ?_⟩
    have hmx2 : mx ≤ 10000 := by
      obtain ⟨z, hz, rfl⟩ := List.mem_map.mp hmx
      obtain ⟨r, hr', hzr⟩ := List.mem_flatten.mp hz
      have hb := hb r hr' z hzr
      split <;> omega
    refine ⟨_, _, rfl, rfl, _, rfl, ?_⟩
    rw [decide_eq_false (show ¬ (10000 : Int) < mx by omega)]
    refine iteF ?_
    have G4 := IsGrid.same s4 G23
    obtain ⟨⟨p, dx4, t4, ep, ho4, ht4⟩, _⟩ := id G4
    cases ep
    refine ⟨_, rfl, gx, _, dx4, _, _, rfl, ho4, T.cl_Grid, T.n_rows, flds_rows _ _, t4, m, n, B, rfl, ht4, sq, hn4, by omega, fun H5 s5 => ?_⟩
    rw [hpos]
    refine ⟨_, rfl, ?_⟩
    refine iteT ?_
    exact q _ (s1.trans (s2.trans (s3.trans (s4.trans s5))))
def sp_checked_gram_SL (K : PySem.W.Frag) (C X : Addr) : Sp := fun vs H _ E => ∃ (a : Addr) (ws : List V) (m : List (List Int)) (n : Nat), vs = [.ref a] ∧ Gm.Seq K H a ws ∧ Paired (IRow K H) ws m ∧ (∃ B, Sq n B m) ∧ 0 < n ∧ n ≤ 4 ∧ transp m n = m ∧ (∃ z ∈ m.flatten, 10000 < z.natAbs) ∧ ERef E X "large" H
theorem ok_checked_gram_SL (T : Top K mg) (hN : base.NoSeer) (hT : P.given.tree = none) : FnOk P w K mg base (L2N.CX P w) 44 T.a_checked_gram T.d_checked_gram ["gram"] (sp_checked_gram_SL K T.C_Grid T.X_Refused) := by
  refine okN T.F_checked_gram sc_checked_gram (fun vs H Q E h => ?_) (fun cdv A outer s H vs Q E hr h => ?_)
  · obtain ⟨a, ws, m, n, rfl, _⟩ := h
    rfl
  · obtain ⟨a, ws, m, n, rfl, hs, hp, ⟨B, sq⟩, hn1, hn4, sym, ⟨z0, hz0, hbig⟩, q⟩ := h
    have lm := sq.len
    have hrow := sq.row
    have lw := Paired.length hp
    have sub : ∀ {n : String}, n = "list" ∨ n = "tuple" → PySem.W.subIn K (.type n) (.ref T.C_Grid) = some false := fun {n} h => by
      rcases h with rfl | rfl
      · exact lst_not
      · exact tup_not
    obtain ⟨t0, ht0, ty0⟩ := seq_ty hs
    refine ⟨_, (pss_cons (ps_set (i := 1) sc_checked_gram.nd rfl (by first | exact .inl rfl | exact .inr rfl) (pe_ifExp (pt_val (pe_callB (isiK K rfl) (by rfl) T.z_isinstance (by decide +kernel) (pa_cons (pv 0) (pa_cons (pe_glob (by rfl) T.g_Grid (show RelV (.ref T.C_Grid) _ from rfl)) pa_nil)))) (fldK K rfl (pv 0) rfl) (pv 0)))
      (pss_cons (ps_if (PW.pt (pw_and (pt_val (pe_callB (isiTK K rfl) (by rfl) T.z_isinstance (by decide +kernel) (pa_cons (pv 1) (pa_cons (pe_tup (pa_cons (pe_bltn (v := .ty "list") (by rfl) T.z_list (by decide +kernel) rfl) (pa_cons (pe_bltn (v := .ty "tuple") (by rfl) T.z_tuple (by decide +kernel) rfl) pa_nil))) pa_nil)))) (pw_and1 (pt_cmpR op_gt (pe_callB (lenS K rfl) (by rfl) T.z_len (by decide +kernel) (pa_cons (pv 1) pa_nil)) (pe_glob (v := V.int 4) (by rfl) T.g_MOST_ROWS ⟨_, rfl⟩) (nomark _)))))
      (pss_one ps_never)
      pss_nil)
      (pss_cons (ps_set (i := 2) sc_checked_gram.nd rfl (by first | exact .inl rfl | exact .inr rfl) (pe_ifExp (pt_val (pe_callB (isiK K rfl) (by rfl) T.z_isinstance (by decide +kernel) (pa_cons (pv 0) (pa_cons (pe_glob (by rfl) T.g_Grid (show RelV (.ref T.C_Grid) _ from rfl)) pa_nil)))) (pv 0) (pe_mk (mak_Grid_N T hN hT) hr (by decide) (by rfl) (pa_cons (pv 0) pa_nil))))
      (pss_cons (ps_if (PW.pt (pw_or (pt_cmpR op_eq (pe_callB (lenS K rfl) (by rfl) T.z_len (by decide +kernel) (pa_cons (fldK K rfl (pv 2) rfl) pa_nil)) pe_int (nomark _)) (pw_or1 (pt_cmpR ((op_ownNe (E := L2.E0) T.km_Grid T.ne_Grid T.m_Grid_eq.at_ T.m_Grid_eq.fn (ok_Grid_eq T hN hT) (hr.mono (by decide)) T.b_Grid_eq (fun _ _ _ _ h => h.elim))) (pv 2) (pe_mt0 (met_Grid_transposed T hN hT) hr (by decide) (pv 2)) (nomark _)))))
      (pss_one ps_never)
      pss_nil)
      (pss_cons (ps_if (pt_cmpR op_gt (pe_callB (maxK K rfl rfl) (by rfl) T.z_max (by decide +kernel) (pa_cons (pe_lc2 (own := [("row", 3), ("item", 4)]) (vs1 := [4]) (g := (gName 3)) (g1 := (gName 4)) (by rfl) sc_checked_gram.nd (piT K rfl (fldK K rfl (pv 2) rfl)) (by show BlkOk ["gram", "rows", "grid", "row", "item"] (defScope s_checked_gram) _ _; exact blkOk_by (by decide +kernel)) (by decide) (fun _ _ _ _ _ => (pg_name (i := 3) sc_checked_gram.nd rfl (by first | exact .inl rfl | exact .inr rfl))) (fun _ _ _ _ _ => pts_nil) (fun _ _ _ _ _ => (piT K rfl (pv 3))) (fun _ _ _ _ _ => (pg_name (i := 4) sc_checked_gram.nd rfl (by first | exact .inl rfl | exact .inr rfl))) (fun _ _ _ _ _ => pts_nil) (fun _ _ _ _ _ => (pe_callB (call_abs) (by rfl) T.z_abs (by decide +kernel) (pa_cons (pv 4) pa_nil)))) pa_nil)) (pe_glob (v := V.int 10000) (by rfl) T.g_MOST ⟨_, rfl⟩) (nomark _))
      (pss_one (L2N.ps_raise rfl (L2N.takes_of rfl rfl rfl rfl) (pmk_oexN T.oX_Refused T.nI_Refused T.jI_Refused (ok_Refused_init T hN hT) (hr.mono (by decide)) T.b_Refused_init .nil pass0 (by rfl) T.gX_Refused (pa_cons pe_str pa_nil))))
      pss_nil)
      (pss_cons ps_never
      (pss_one ps_never))))))), ?_⟩
    refine ⟨_, rfl, .ref a, .ref T.C_Grid, _, _, false, rfl, .own _, ty0, kit_own T.ic_Grid T.ty_Grid (sub ht0), false, rfl, ?_⟩
    refine iteF ?_
    refine ⟨_, rfl, ?_⟩
    refine ⟨_, rfl, by show 2 ≤ sizeLine; decide, fun tp np => ?_⟩
    have s1 := same_upd (o := .tup [.ty "list", .ty "tuple"]) np
    have hs1 := hs.same s1
    obtain ⟨t1, ht1, ty1⟩ := seq_ty hs1
    refine ⟨.ref a, tp, [.ty "list", .ty "tuple"], _, [.type "list", .type "tuple"], true, rfl, upd_same, .cons (.ty _) (.cons (.ty _) .nil), ty1, kit_lt ht1, true, rfl, ?_⟩
    refine iteT ?_
    have hp1 := L2.Paired.mapP hp fun _ _ => IRow.same s1
    generalize upd H tp (.tup [.ty "list", .ty "tuple"]) = H1 at s1 hs1 ty1 hp1 ⊢
    refine ⟨_, rfl, a, _, rfl, hs1, _, _, rfl, rfl, _, rfl, ?_⟩
    rw [decide_eq_false (show ¬ (4 : Int) < (ws.length : Int) by omega)]
    refine iteF ?_
    refine ⟨_, rfl, .ref a, .ref T.C_Grid, _, _, false, rfl, .own _, ty1, kit_own T.ic_Grid T.ty_Grid (sub ht1), false, rfl, ?_⟩
    refine iteF ?_
    refine ⟨_, rfl, ?_⟩
    intro gx gd ngx ngd nge
    refine make_gridN ngx ngd (m := m) ⟨a, ws, rfl, hs1, hp1⟩ (by omega) (by omega) (w := n) (by omega) hrow fun H2 s2 G2 => ⟨rfl, ?_⟩
    obtain ⟨⟨p, dx, t, ep, ho, ht⟩, hrw⟩ := id G2
    cases ep
    obtain ⟨qt, wt, rfl, hq, hpt⟩ := id ht
    have lwt := Paired.length hpt
    refine ⟨_, rfl, gx, _, dx, _, _, rfl, ho, T.cl_Grid, T.n_rows, flds_rows _ _, qt, _, rfl, .inr hq, rfl, _, rfl, ?_⟩
    rw [show decide (V.int (wt.length : Int) = V.int 0) = false from decide_eq_false fun z => by have := V.int.inj z; omega]
    refine iteF ?_
    refine ⟨_, rfl, _, rfl, gx, dx, _, rfl, ho, m_transposed _ _, _, m, n, rfl, G2, by omega, by omega, fun g3 H3 s3 G3 => ?_⟩
    rw [sym, lm] at G3
    refine ne_grid (IsGrid.same s3 G2) G3 ⟨_, rfl, ?_⟩
    refine iteF ?_
    have G23 := IsGrid.same s3 G2
    obtain ⟨⟨p, dx3, t3, ep, ho3, ht3⟩, _⟩ := id G23
    cases ep
    obtain ⟨qt3, wt3, rfl, hq3, hpt3⟩ := id ht3
    refine ⟨_, rfl, gx, _, dx3, _, _, rfl, ho3, T.cl_Grid, T.n_rows, flds_rows _ _, qt3, rfl, ⟨_, hq3⟩, fun D hD => ?_⟩
    refine lc2_rows (j := 3) (j1 := 4) (vs := [3, 4]) (vs1 := [4]) (te := tCB (fun xs H Q => ∃ i, xs = [V.int i] ∧ Q (V.int (if i < 0 then -i else i)) H) (tCons (tVar 4) tNil)) (f := fun z => if z < 0 then -z else z) hq3 hD hpt3 (flat_len sq hn4) ?_ ?_ ?_ ?_ ?_
    · intro _; rfl
    · intro _ _; rfl
    · intro _; rfl
    · exact fun z x H Ko k => ⟨_, rfl, z, rfl, k⟩
    intro H4 s4 eD
    have lfl : 0 < (m.flatten.map fun z => if z < 0 then -z else z).length := by
      rw [List.length_map]
      cases m with
      | nil => rw [List.length_nil] at lm; omega
      | cons r m =>
        have := sq.row r (List.mem_cons_self ..)
        rw [List.flatten_cons, List.length_append]
        omega
    refine ⟨D, _, rfl, .inl (.inl eD), lfl, fun mx hmx hge => ?_⟩
    have hmx2 : 10000 < mx := by
      have := hge (if z0 < 0 then -z0 else z0) (List.mem_map.mpr ⟨z0, hz0, rfl⟩)
      split at this <;> omega
    refine ⟨_, _, rfl, rfl, _, rfl, ?_⟩
    rw [decide_eq_true hmx2]
    refine iteT ?_
    exact ⟨by decide, fun a na => made_ref (q.at (s1.trans (s2.trans (s3.trans s4)))) a na⟩
def sp_checked_gram_SR (K : PySem.W.Frag) (C X : Addr) : Sp := fun vs H _ E => ∃ (a : Addr) (ws : List V) (m : List (List Int)) (n : Nat), vs = [.ref a] ∧ Gm.Seq K H a ws ∧ Paired (IRow K H) ws m ∧ 4 < m.length ∧ n = 0 ∧ ERef E X "rank" H
theorem ok_checked_gram_SR (T : Top K mg) (hN : base.NoSeer) (hT : P.given.tree = none) : FnOk P w K mg base (L2N.CX P w) 44 T.a_checked_gram T.d_checked_gram ["gram"] (sp_checked_gram_SR K T.C_Grid T.X_Refused) := by
  refine okN T.F_checked_gram sc_checked_gram (fun vs H Q E h => ?_) (fun cdv A outer s H vs Q E hr h => ?_)
  · obtain ⟨a, ws, m, n, rfl, _⟩ := h
    rfl
  · obtain ⟨a, ws, m, n, rfl, hs, hp, h4, _, q⟩ := h
    have lw := Paired.length hp
    have sub : ∀ {n : String}, n = "list" ∨ n = "tuple" → PySem.W.subIn K (.type n) (.ref T.C_Grid) = some false := fun {n} h => by
      rcases h with rfl | rfl
      · exact lst_not
      · exact tup_not
    obtain ⟨t0, ht0, ty0⟩ := seq_ty hs
    refine ⟨_, (pss_cons (ps_set (i := 1) sc_checked_gram.nd rfl (by first | exact .inl rfl | exact .inr rfl) (pe_ifExp (pt_val (pe_callB (isiK K rfl) (by rfl) T.z_isinstance (by decide +kernel) (pa_cons (pv 0) (pa_cons (pe_glob (by rfl) T.g_Grid (show RelV (.ref T.C_Grid) _ from rfl)) pa_nil)))) (fldK K rfl (pv 0) rfl) (pv 0)))
      (pss_cons (ps_if (PW.pt (pw_and (pt_val (pe_callB (isiTK K rfl) (by rfl) T.z_isinstance (by decide +kernel) (pa_cons (pv 1) (pa_cons (pe_tup (pa_cons (pe_bltn (v := .ty "list") (by rfl) T.z_list (by decide +kernel) rfl) (pa_cons (pe_bltn (v := .ty "tuple") (by rfl) T.z_tuple (by decide +kernel) rfl) pa_nil))) pa_nil)))) (pw_and1 (pt_cmpR op_gt (pe_callB (lenS K rfl) (by rfl) T.z_len (by decide +kernel) (pa_cons (pv 1) pa_nil)) (pe_glob (v := V.int 4) (by rfl) T.g_MOST_ROWS ⟨_, rfl⟩) (nomark _)))))
      (pss_one (L2N.ps_raise rfl (L2N.takes_of rfl rfl rfl rfl) (pmk_oexN T.oX_Refused T.nI_Refused T.jI_Refused (ok_Refused_init T hN hT) (hr.mono (by decide)) T.b_Refused_init .nil pass0 (by rfl) T.gX_Refused (pa_cons pe_str pa_nil))))
      pss_nil)
      (pss_cons ps_never
      (pss_cons ps_never
      (pss_cons ps_never
      (pss_cons ps_never
      (pss_one ps_never))))))), ?_⟩
    refine ⟨_, rfl, .ref a, .ref T.C_Grid, _, _, false, rfl, .own _, ty0, kit_own T.ic_Grid T.ty_Grid (sub ht0), false, rfl, ?_⟩
    refine iteF ?_
    refine ⟨_, rfl, ?_⟩
    refine ⟨_, rfl, by show 2 ≤ sizeLine; decide, fun tp np => ?_⟩
    have s1 := same_upd (o := .tup [.ty "list", .ty "tuple"]) np
    have hs1 := hs.same s1
    obtain ⟨t1, ht1, ty1⟩ := seq_ty hs1
    refine ⟨.ref a, tp, [.ty "list", .ty "tuple"], _, [.type "list", .type "tuple"], true, rfl, upd_same, .cons (.ty _) (.cons (.ty _) .nil), ty1, kit_lt ht1, true, rfl, ?_⟩
    refine iteT ?_
    have hp1 := L2.Paired.mapP hp fun _ _ => IRow.same s1
    generalize upd H tp (.tup [.ty "list", .ty "tuple"]) = H1 at s1 hs1 ty1 hp1 ⊢
    refine ⟨_, rfl, a, _, rfl, hs1, _, _, rfl, rfl, _, rfl, ?_⟩
    rw [decide_eq_true (show (4 : Int) < (ws.length : Int) by omega)]
    refine iteT ?_
    exact ⟨by decide, fun a na => made_ref (q.at s1) a na⟩

end
end K50
namespace K50
open PySem PySem.Spec PyProof.Rows L2 Gm
open C8 (Cal Met Mak pe_c pe_mt pe_mt0 pe_mk)
section
variable {P : Program} {w : World} {K : PySem.W.Frag} {mg : Str → Option Value} {base : Heap}
def sp_checked_width_E (K : PySem.W.Frag) : Sp := fun vs H Q _ => ∃ (v : V), vs = [v, .non] ∧ TRows K H v [] ∧ ∀ H', Same H H' → Q (.int 0) H'
theorem ok_checked_width_E (T : Top K mg) (hN : base.NoSeer) (hT : P.given.tree = none) : FnOk P w K mg base CX0 2 T.a_checked_width T.d_checked_width ["rows", "width"] (sp_checked_width_E K) := by
  refine T.F_checked_width.ok sc_checked_width (fun vs H Q E h => ?_) (fun cdv A outer s H vs Q E hr h => ?_)
  · obtain ⟨v, rfl, _⟩ := h
    rfl
  · obtain ⟨v, rfl, hm, q⟩ := h
    obtain ⟨a, ws, rfl, hs, hp⟩ := id hm
    have lw := Paired.length hp
    rw [List.length_nil] at lw
    refine ⟨_, (pss_cons (ps_if (pt_cmpR op_isN (pv 1) pe_non (nomark _))
      (pss_one (ps_set (i := 1) sc_checked_width.nd rfl (by first | exact .inl rfl | exact .inr rfl) (pe_ifExp (pt_cmpR op_gt (pe_callB (lenS K rfl) (by rfl) T.z_len (by decide +kernel) (pa_cons (pv 0) pa_nil)) pe_int (nomark _)) (pe_callB (lenS K rfl) (by rfl) T.z_len (by decide +kernel) (pa_cons (pe_ix (ixT K rfl) (pv 0) pe_int (fun _ _ => rfl)) pa_nil)) pe_int)))
      pss_nil)
      (pss_cons (ps_if (PW.pt (pw_or (pt_not (pt_val (pe_c (cal_is_integer T hN hT) hr (by decide) (by rfl) (pa_cons (pv 1) pa_nil)))) (pw_or1 (pt_cmpR op_lt (pv 1) pe_int (nomark _)))))
      (pss_one ps_never)
      pss_nil)
      (pss_cons (ps_if (pt_not (pt_val (pe_callB (allK K rfl rfl) (by rfl) T.z_all (by decide +kernel) (pa_cons (pe_lc (own := [("row", 2)]) (g := (gName 2)) (by rfl) sc_checked_width.nd (piS K rfl (pv 0)) ((by show BlkOk ["rows", "width", "row"] (defScope s_checked_width) _ _; exact blkOk_by (by decide +kernel))) (fun _ _ _ _ _ => (pg_name (i := 2) sc_checked_width.nd rfl (by first | exact .inl rfl | exact .inr rfl))) (fun _ _ _ _ _ => pts_nil) (fun _ _ _ _ _ => (pe_cmpR op_eq (pe_callB (lenS K rfl) (by rfl) T.z_len (by decide +kernel) (pa_cons (pv 2) pa_nil)) (pv 1) (nomark _)))) pa_nil))))
      (pss_one ps_never)
      pss_nil)
      (pss_one (ps_ret (pv 1)))))), ?_⟩
    refine ⟨_, rfl, rfl, _, rfl, ?_⟩
    rw [decide_eq_true rfl]
    refine iteT ?_
    refine ⟨_, rfl, a, ws, rfl, .inr hs, _, _, rfl, rfl, _, rfl, ?_⟩
    rw [decide_eq_false (show ¬ (0 : Int) < (ws.length : Int) by omega)]
    refine iteF ?_
    refine ⟨_, rfl, _, rfl, true, rfl, iteF ⟨_, rfl, _, _, rfl, rfl, _, rfl, ?_⟩⟩
    refine iteF ?_
    refine ⟨_, rfl, a, ws, rfl, .inr hs, fun J2 G2 W2 hG2 D hD => ?_⟩
    refine lc_all W2 hD (by omega) (fun H4 s4 => hG2 H4 fun b _ o => s4 b o) (fun _ v _ => v = .bl true) (fun _ _ _ _ _ _ _ h => h) ?_ gm_name ?_
    · rintro i x H4 H4' acc Ko hi s4 eD ⟨rfl, ex⟩ k
      omega
    · intro H4 l s4 eD hl2
      refine ⟨D, List.replicate l.length true, rfl, .inl (.inl (by rw [← paired_true hl2]; exact eD)), true, by rw [all_true], ?_⟩
      refine iteF ?_
      exact ⟨_, rfl, q _ s4⟩
theorem cal_checked_width_E (T : Top K mg) (hN : base.NoSeer) (hT : P.given.tree = none) : Cal P w K mg base 2 "checked_width" (sp_checked_width_E K) [] := ⟨⟨_, _, _, [], ok_checked_width_E T hN hT, T.g_checked_width, T.F_checked_width.kp, T.b_checked_width, .nil⟩⟩
def sp_Grid_init_E (K : PySem.W.Frag) (C : Addr) : Sp := fun vs H Q _ => ∃ (p dx : Addr) (v : V), vs = [.ref p, v, .non] ∧ H p = some (.ins C dx []) ∧ IRows K H v [] ∧ ∀ t H', Off p H H' → H' p = some (.ins C dx (flds t 0)) → TRows K H' t [] → Q .non H'
theorem ok_Grid_init_E (T : Top K mg) (hN : base.NoSeer) (hT : P.given.tree = none) : FnOk P w K mg base CX0 3 T.a_Grid_init T.d_Grid_init ["self", "rows", "width"] (sp_Grid_init_E K T.C_Grid) := by
  refine T.F_Grid_init.ok sc_Grid_init (fun vs H Q E h => ?_) (fun cdv A outer s H vs Q E hr h => ?_)
  · obtain ⟨p, dx, v, rfl, _⟩ := h
    rfl
  · obtain ⟨p, dx, v, rfl, hp, hm, q⟩ := h
    refine ⟨_, PSs.nox (pss_cons (ps_fld (pv 0) (pe_c (cal_checked_rows T hN hT) hr (by decide) (by rfl) (pa_cons (pv 1) pa_nil)) rfl)
      (pss_one (ps_fld (pv 0) (pe_c (cal_checked_width_E T hN hT) hr (by decide) (by rfl) (pa_cons (fldK K rfl (pv 0) rfl) (pa_cons (pv 2) pa_nil))) rfl))), ?_⟩
    refine ⟨_, rfl, v, [], rfl, hm, by decide, (fun r hr => (by cases hr)), fun t H1 s1 ht => ?_⟩
    have hp1 := s1 _ _ hp
    refine ⟨_, rfl, p, T.C_Grid, dx, [], rfl, hp1, T.cl_Grid, T.n_rows, by show 0 < 1000; decide, ?_⟩
    refine ⟨_, rfl, p, T.C_Grid, dx, _, t, rfl, upd_same, T.cl_Grid, T.n_rows, ?_, ?_⟩
    · rw [lookup_putF, if_pos rfl]
    have ht2 : TRows K (upd H1 p (.ins T.C_Grid dx (putF "rows" t []))) t [] := trows_off hp1 Off.upd ht
    refine ⟨_, rfl, t, rfl, ht2, fun H2 s2 => ?_⟩
    have hp2 := s2 _ _ upd_same
    refine ⟨_, rfl, p, T.C_Grid, dx, _, rfl, hp2, T.cl_Grid, T.n_width, by show 1 < 1000; decide, ?_⟩
    refine q t _ (fun b o n e => ?_) upd_same (trows_off hp2 Off.upd (ht2.same s2))
    rw [upd_ne n]
    exact s2 _ _ (Off.upd _ _ n (s1 _ _ e))
theorem mak_Grid_E (T : Top K mg) (hN : base.NoSeer) (hT : P.given.tree = none) : Mak P w K mg base 3 "Grid" T.C_Grid (sp_Grid_init_E K T.C_Grid) [.non] := by
  obtain ⟨ds2, vN2, bN2⟩ := T.F_Grid_init.binds1 (ps := ["self", "rows", "width"]) 2 0 (by simp) rfl fun _ _ _ _ _ _ _ us its hl hi => match us, hl, its, hi with | [_, _], _, [_], _ => ⟨_, rfl, rfl⟩
  exact ⟨⟨_, _, _, _, T.mk_Grid, ok_Grid_init_E T hN hT, T.g_Grid, bN2, vN2⟩⟩
def sp_checked_gram_SE (K : PySem.W.Frag) (C X : Addr) : Sp := fun vs H _ E => ∃ (a : Addr), vs = [.ref a] ∧ Gm.Seq K H a [] ∧ ∀ H', Same H H' → E (.ref X) none H'
theorem ok_checked_gram_SE (T : Top K mg) (hN : base.NoSeer) (hT : P.given.tree = none) : FnOk P w K mg base (L2N.CX P w) 44 T.a_checked_gram T.d_checked_gram ["gram"] (sp_checked_gram_SE K T.C_Grid T.X_Malformed) := by
  refine okN T.F_checked_gram sc_checked_gram (fun vs H Q E h => ?_) (fun cdv A outer s H vs Q E hr h => ?_)
  · obtain ⟨a, rfl, _⟩ := h
    rfl
  · obtain ⟨a, rfl, hs, q⟩ := h
    obtain ⟨ws, hws⟩ : ∃ ws : List V, ws = [] := ⟨_, rfl⟩
    rw [← hws] at hs
    have hp : Paired (IRow K H) ws [] := by rw [hws]; exact .nil
    have lw := Paired.length hp
    have sub : ∀ {n : String}, n = "list" ∨ n = "tuple" → PySem.W.subIn K (.type n) (.ref T.C_Grid) = some false := fun {n} h => by
      rcases h with rfl | rfl
      · exact lst_not
      · exact tup_not
    obtain ⟨t0, ht0, ty0⟩ := seq_ty hs
    refine ⟨_, (pss_cons (ps_set (i := 1) sc_checked_gram.nd rfl (by first | exact .inl rfl | exact .inr rfl) (pe_ifExp (pt_val (pe_callB (isiK K rfl) (by rfl) T.z_isinstance (by decide +kernel) (pa_cons (pv 0) (pa_cons (pe_glob (by rfl) T.g_Grid (show RelV (.ref T.C_Grid) _ from rfl)) pa_nil)))) (fldK K rfl (pv 0) rfl) (pv 0)))
      (pss_cons (ps_if (PW.pt (pw_and (pt_val (pe_callB (isiTK K rfl) (by rfl) T.z_isinstance (by decide +kernel) (pa_cons (pv 1) (pa_cons (pe_tup (pa_cons (pe_bltn (v := .ty "list") (by rfl) T.z_list (by decide +kernel) rfl) (pa_cons (pe_bltn (v := .ty "tuple") (by rfl) T.z_tuple (by decide +kernel) rfl) pa_nil))) pa_nil)))) (pw_and1 (pt_cmpR op_gt (pe_callB (lenS K rfl) (by rfl) T.z_len (by decide +kernel) (pa_cons (pv 1) pa_nil)) (pe_glob (v := V.int 4) (by rfl) T.g_MOST_ROWS ⟨_, rfl⟩) (nomark _)))))
      (pss_one ps_never)
      pss_nil)
      (pss_cons (ps_set (i := 2) sc_checked_gram.nd rfl (by first | exact .inl rfl | exact .inr rfl) (pe_ifExp (pt_val (pe_callB (isiK K rfl) (by rfl) T.z_isinstance (by decide +kernel) (pa_cons (pv 0) (pa_cons (pe_glob (by rfl) T.g_Grid (show RelV (.ref T.C_Grid) _ from rfl)) pa_nil)))) (pv 0) (pe_mk (mak_Grid_E T hN hT) hr (by decide) (by rfl) (pa_cons (pv 0) pa_nil))))
      (pss_cons (ps_if (PW.pt (pw_or (pt_cmpR op_eq (pe_callB (lenS K rfl) (by rfl) T.z_len (by decide +kernel) (pa_cons (fldK K rfl (pv 2) rfl) pa_nil)) pe_int (nomark _)) (pw_or1 (pt_cmpR ((op_ownNe (E := L2.E0) T.km_Grid T.ne_Grid T.m_Grid_eq.at_ T.m_Grid_eq.fn (ok_Grid_eq T hN hT) (hr.mono (by decide)) T.b_Grid_eq (fun _ _ _ _ h => h.elim))) (pv 2) (pe_mt0 (met_Grid_transposed T hN hT) hr (by decide) (pv 2)) (nomark _)))))
      (pss_one (L2N.ps_raise rfl (L2N.takes_of rfl rfl rfl rfl) (L2N.pmk_own PySem.F.excBase_ValueError T.xX_Malformed T.gX_Malformed T.kX_Malformed (raises_own T.bX_Malformed T.tX_Malformed) (by exact rfl))))
      pss_nil)
      (pss_cons ps_never
      (pss_cons ps_never
      (pss_one ps_never))))))), ?_⟩
    refine ⟨_, rfl, .ref a, .ref T.C_Grid, _, _, false, rfl, .own _, ty0, kit_own T.ic_Grid T.ty_Grid (sub ht0), false, rfl, ?_⟩
    refine iteF ?_
    refine ⟨_, rfl, ?_⟩
    refine ⟨_, rfl, by show 2 ≤ sizeLine; decide, fun tp np => ?_⟩
    have s1 := same_upd (o := .tup [.ty "list", .ty "tuple"]) np
    have hs1 := hs.same s1
    obtain ⟨t1, ht1, ty1⟩ := seq_ty hs1
    refine ⟨.ref a, tp, [.ty "list", .ty "tuple"], _, [.type "list", .type "tuple"], true, rfl, upd_same, .cons (.ty _) (.cons (.ty _) .nil), ty1, kit_lt ht1, true, rfl, ?_⟩
    refine iteT ?_
    have hp1 := L2.Paired.mapP hp fun _ _ => IRow.same s1
    generalize upd H tp (.tup [.ty "list", .ty "tuple"]) = H1 at s1 hs1 ty1 hp1 ⊢
    refine ⟨_, rfl, a, _, rfl, hs1, _, _, rfl, rfl, _, rfl, ?_⟩
    rw [decide_eq_false (show ¬ (4 : Int) < (ws.length : Int) by rw [hws]; decide)]
    refine iteF ?_
    refine ⟨_, rfl, .ref a, .ref T.C_Grid, _, _, false, rfl, .own _, ty1, kit_own T.ic_Grid T.ty_Grid (sub ht1), false, rfl, ?_⟩
    refine iteF ?_
    refine ⟨_, rfl, ?_⟩
    intro gx gd ngx ngd nge
    have s0 : Same H1 (upd (upd H1 gd (.own gx)) gx (.ins T.C_Grid gd [])) := fun b o e => by
      rw [upd_ne (ne_of_none e ngx), upd_ne (ne_of_none e ngd)]
      exact e
    refine ⟨gx, gd, .ref a, rfl, upd_same, ⟨a, ws, rfl, hs1.same s0, L2.Paired.mapP hp1 fun _ _ => IRow.same s0⟩, fun t H2 o2 ho ht => ⟨rfl, ?_⟩⟩
    obtain ⟨qt, wt, rfl, hq, hpt⟩ := id ht
    have lwt := Paired.length hpt
    rw [List.length_nil] at lwt
    refine ⟨_, rfl, gx, _, gd, _, _, rfl, ho, T.cl_Grid, T.n_rows, flds_rows _ _, qt, _, rfl, .inr hq, rfl, _, rfl, ?_⟩
    rw [show decide (V.int (wt.length : Int) = V.int 0) = true from decide_eq_true (by rw [lwt]; rfl)]
    refine iteT ?_
    exact q _ (s1.trans fun b o e => o2 _ _ (ne_of_none e ngx) (s0 _ _ e))

end
end K50
namespace K50
open PySem PySem.Spec PyProof.Rows L2 Gm
open C8 (Cal Met Mak pe_c pe_mt pe_mt0 pe_mk)
section
variable {P : Program} {w : World} {K : PySem.W.Frag} {mg : Str → Option Value} {base : Heap}
def sp_checked_gram_S (K : PySem.W.Frag) (C : Addr) : Sp := fun vs H Q _ => ∃ (a : Addr) (ws : List V) (m : List (List Int)) (n : Nat), vs = [.ref a] ∧ Gm.Seq K H a ws ∧ Paired (IRow K H) ws m ∧ Gram n m ∧ ∀ g H', Same H H' → IsGrid K C H' g m n → Q g H'
theorem ok_checked_gram_S (T : Top K mg) (hN : base.NoSeer) (hT : P.given.tree = none) : FnOk P w K mg base CX0 44 T.a_checked_gram T.d_checked_gram ["gram"] (sp_checked_gram_S K T.C_Grid) := by
  refine T.F_checked_gram.ok sc_checked_gram (fun vs H Q E h => ?_) (fun cdv A outer s H vs Q E hr h => ?_)
  · obtain ⟨a, ws, m, n, rfl, _⟩ := h
    rfl
  · obtain ⟨a, ws, m, n, rfl, hs, hp, gm, q⟩ := h
    have sq := gm.sq
    have lm := sq.len
    have hrow := sq.row
    have hn1 := gm.n1
    have hn4 := gm.n4
    have sym := gm.sym
    have lw := Paired.length hp
    have sub : ∀ {n : String}, n = "list" ∨ n = "tuple" → PySem.W.subIn K (.type n) (.ref T.C_Grid) = some false := fun {n} h => by
      rcases h with rfl | rfl
      · exact lst_not
      · exact tup_not
    obtain ⟨t0, ht0, ty0⟩ := seq_ty hs
    refine ⟨_, (pss_cons (ps_set (i := 1) sc_checked_gram.nd rfl (by first | exact .inl rfl | exact .inr rfl) (pe_ifExp (pt_val (pe_callB (isiK K rfl) (by rfl) T.z_isinstance (by decide +kernel) (pa_cons (pv 0) (pa_cons (pe_glob (by rfl) T.g_Grid (show RelV (.ref T.C_Grid) _ from rfl)) pa_nil)))) (fldK K rfl (pv 0) rfl) (pv 0)))
      (pss_cons (ps_if (PW.pt (pw_and (pt_val (pe_callB (isiTK K rfl) (by rfl) T.z_isinstance (by decide +kernel) (pa_cons (pv 1) (pa_cons (pe_tup (pa_cons (pe_bltn (v := .ty "list") (by rfl) T.z_list (by decide +kernel) rfl) (pa_cons (pe_bltn (v := .ty "tuple") (by rfl) T.z_tuple (by decide +kernel) rfl) pa_nil))) pa_nil)))) (pw_and1 (pt_cmpR op_gt (pe_callB (lenS K rfl) (by rfl) T.z_len (by decide +kernel) (pa_cons (pv 1) pa_nil)) (pe_glob (v := V.int 4) (by rfl) T.g_MOST_ROWS ⟨_, rfl⟩) (nomark _)))))
      (pss_one ps_never)
      pss_nil)
      (pss_cons (ps_set (i := 2) sc_checked_gram.nd rfl (by first | exact .inl rfl | exact .inr rfl) (pe_ifExp (pt_val (pe_callB (isiK K rfl) (by rfl) T.z_isinstance (by decide +kernel) (pa_cons (pv 0) (pa_cons (pe_glob (by rfl) T.g_Grid (show RelV (.ref T.C_Grid) _ from rfl)) pa_nil)))) (pv 0) (pe_mk (mak_Grid_N T hN hT) hr (by decide) (by rfl) (pa_cons (pv 0) pa_nil))))
      (pss_cons (ps_if (PW.pt (pw_or (pt_cmpR op_eq (pe_callB (lenS K rfl) (by rfl) T.z_len (by decide +kernel) (pa_cons (fldK K rfl (pv 2) rfl) pa_nil)) pe_int (nomark _)) (pw_or1 (pt_cmpR ((op_ownNe (E := L2.E0) T.km_Grid T.ne_Grid T.m_Grid_eq.at_ T.m_Grid_eq.fn (ok_Grid_eq T hN hT) (hr.mono (by decide)) T.b_Grid_eq (fun _ _ _ _ h => h.elim))) (pv 2) (pe_mt0 (met_Grid_transposed T hN hT) hr (by decide) (pv 2)) (nomark _)))))
      (pss_one ps_never)
      pss_nil)
      (pss_cons (ps_if (pt_cmpR op_gt (pe_callB (maxK K rfl rfl) (by rfl) T.z_max (by decide +kernel) (pa_cons (pe_lc2 (own := [("row", 3), ("item", 4)]) (vs1 := [4]) (g := (gName 3)) (g1 := (gName 4)) (by rfl) sc_checked_gram.nd (piT K rfl (fldK K rfl (pv 2) rfl)) (by show BlkOk ["gram", "rows", "grid", "row", "item"] (defScope s_checked_gram) _ _; exact blkOk_by (by decide +kernel)) (by decide) (fun _ _ _ _ _ => (pg_name (i := 3) sc_checked_gram.nd rfl (by first | exact .inl rfl | exact .inr rfl))) (fun _ _ _ _ _ => pts_nil) (fun _ _ _ _ _ => (piT K rfl (pv 3))) (fun _ _ _ _ _ => (pg_name (i := 4) sc_checked_gram.nd rfl (by first | exact .inl rfl | exact .inr rfl))) (fun _ _ _ _ _ => pts_nil) (fun _ _ _ _ _ => (pe_callB (call_abs) (by rfl) T.z_abs (by decide +kernel) (pa_cons (pv 4) pa_nil)))) pa_nil)) (pe_glob (v := V.int 10000) (by rfl) T.g_MOST ⟨_, rfl⟩) (nomark _))
      (pss_one ps_never)
      pss_nil)
      (pss_cons (ps_if (pt_not (pt_val (pe_c (cal_is_positive T hN hT) hr (by decide) (by rfl) (pa_cons (fldK K rfl (pv 2) rfl) pa_nil))))
      (pss_one ps_never)
      pss_nil)
      (pss_one (ps_ret (pv 2))))))))), ?_⟩
    refine ⟨_, rfl, .ref a, .ref T.C_Grid, _, _, false, rfl, .own _, ty0, kit_own T.ic_Grid T.ty_Grid (sub ht0), false, rfl, ?_⟩
    refine iteF ?_
    refine ⟨_, rfl, ?_⟩
    refine ⟨_, rfl, by show 2 ≤ sizeLine; decide, fun tp np => ?_⟩
    have s1 := same_upd (o := .tup [.ty "list", .ty "tuple"]) np
    have hs1 := hs.same s1
    obtain ⟨t1, ht1, ty1⟩ := seq_ty hs1
    refine ⟨.ref a, tp, [.ty "list", .ty "tuple"], _, [.type "list", .type "tuple"], true, rfl, upd_same, .cons (.ty _) (.cons (.ty _) .nil), ty1, kit_lt ht1, true, rfl, ?_⟩
    refine iteT ?_
    have hp1 := L2.Paired.mapP hp fun _ _ => IRow.same s1
    generalize upd H tp (.tup [.ty "list", .ty "tuple"]) = H1 at s1 hs1 ty1 hp1 ⊢
    refine ⟨_, rfl, a, _, rfl, hs1, _, _, rfl, rfl, _, rfl, ?_⟩
    rw [decide_eq_false (show ¬ (4 : Int) < (ws.length : Int) by omega)]
    refine iteF ?_
    refine ⟨_, rfl, .ref a, .ref T.C_Grid, _, _, false, rfl, .own _, ty1, kit_own T.ic_Grid T.ty_Grid (sub ht1), false, rfl, ?_⟩
    refine iteF ?_
    refine ⟨_, rfl, ?_⟩
    intro gx gd ngx ngd nge
    refine make_gridN ngx ngd (m := m) ⟨a, ws, rfl, hs1, hp1⟩ (by omega) (by omega) (w := n) (by omega) hrow fun H2 s2 G2 => ⟨rfl, ?_⟩
    obtain ⟨⟨p, dx, t, ep, ho, ht⟩, hrw⟩ := id G2
    cases ep
    obtain ⟨qt, wt, rfl, hq, hpt⟩ := id ht
    have lwt := Paired.length hpt
    refine ⟨_, rfl, gx, _, dx, _, _, rfl, ho, T.cl_Grid, T.n_rows, flds_rows _ _, qt, _, rfl, .inr hq, rfl, _, rfl, ?_⟩
    rw [show decide (V.int (wt.length : Int) = V.int 0) = false from decide_eq_false fun z => by have := V.int.inj z; omega]
    refine iteF ?_
    refine ⟨_, rfl, _, rfl, gx, dx, _, rfl, ho, m_transposed _ _, _, m, n, rfl, G2, by omega, by omega, fun g3 H3 s3 G3 => ?_⟩
    rw [sym, lm] at G3
    refine ne_grid (IsGrid.same s3 G2) G3 ⟨_, rfl, ?_⟩
    refine iteF ?_
    have G23 := IsGrid.same s3 G2
    obtain ⟨⟨p, dx3, t3, ep, ho3, ht3⟩, _⟩ := id G23
    cases ep
    obtain ⟨qt3, wt3, rfl, hq3, hpt3⟩ := id ht3
    refine ⟨_, rfl, gx, _, dx3, _, _, rfl, ho3, T.cl_Grid, T.n_rows, flds_rows _ _, qt3, rfl, ⟨_, hq3⟩, fun D hD => ?_⟩
    refine lc2_rows (j := 3) (j1 := 4) (vs := [3, 4]) (vs1 := [4]) (te := tCB (fun xs H Q => ∃ i, xs = [V.int i] ∧ Q (V.int (if i < 0 then -i else i)) H) (tCons (tVar 4) tNil)) (f := fun z => if z < 0 then -z else z) hq3 hD hpt3 (flat_len sq hn4) ?_ ?_ ?_ ?_ ?_
    · intro _; rfl
    · intro _ _; rfl
    · intro _; rfl
    · exact fun z x H Ko k => ⟨_, rfl, z, rfl, k⟩
    intro H4 s4 eD
    have lfl : 0 < (m.flatten.map fun z => if z < 0 then -z else z).length := by
      rw [List.length_map]
      cases m with
      | nil => rw [List.length_nil] at lm; omega
      | cons r m =>
        have := sq.row r (List.mem_cons_self ..)
        rw [List.flatten_cons, List.length_append]
        omega
    refine ⟨D, _, rfl, .inl (.inl eD), lfl, fun mx hmx _ => ?_⟩
    have hmx2 : mx ≤ 10000 := by
      obtain ⟨z, hz, rfl⟩ := List.mem_map.mp hmx
      obtain ⟨r, hr', hzr⟩ := List.mem_flatten.mp hz
      have hb : z.natAbs < 8192 := sq.bits r hr' z hzr
      split <;> omega
    refine ⟨_, _, rfl, rfl, _, rfl, ?_⟩
    rw [decide_eq_false (show ¬ (10000 : Int) < mx by omega)]
    refine iteF ?_
    have G4 := IsGrid.same s4 G23
    obtain ⟨⟨p, dx4, t4, ep, ho4, ht4⟩, _⟩ := id G4
    cases ep
    refine ⟨_, rfl, gx, _, dx4, _, _, rfl, ho4, T.cl_Grid, T.n_rows, flds_rows _ _, t4, m, n, 13, rfl, ht4, sq, hn4, by decide, fun H5 s5 => ?_⟩
    rw [gm.pos]
    refine ⟨_, rfl, ?_⟩
    refine iteF ?_
    exact ⟨_, rfl, q _ H5 (s1.trans (s2.trans (s3.trans (s4.trans s5)))) (IsGrid.same s5 G4)⟩
theorem cal_checked_gram_S (T : Top K mg) (hN : base.NoSeer) (hT : P.given.tree = none) : Cal P w K mg base 44 "checked_gram" (sp_checked_gram_S K T.C_Grid) [] := ⟨⟨_, _, _, [], ok_checked_gram_S T hN hT, T.g_checked_gram, T.F_checked_gram.kp, T.b_checked_gram, .nil⟩⟩
def sp_checked_gram_SM (K : PySem.W.Frag) (C X : Addr) : Sp := fun vs H Q E => sp_checked_gram_XG K X vs H Q E ∨ sp_checked_gram_SA K C X vs H Q E ∨ sp_checked_gram_SP K C X vs H Q E ∨ sp_checked_gram_SE K C X vs H Q E
theorem ok_checked_gram_SM (T : Top K mg) (hN : base.NoSeer) (hT : P.given.tree = none) : FnOk P w K mg base (L2N.CX P w) 44 T.a_checked_gram T.d_checked_gram ["gram"] (sp_checked_gram_SM K T.C_Grid T.X_Malformed) := fn_or (ok_checked_gram_XG T hN hT) (fn_or (ok_checked_gram_SA T hN hT) (fn_or (ok_checked_gram_SP T hN hT) (ok_checked_gram_SE T hN hT)))
def sp_checked_gram_SX (K : PySem.W.Frag) (C X : Addr) : Sp := fun vs H Q E => sp_checked_gram_SL K C X vs H Q E ∨ sp_checked_gram_SR K C X vs H Q E
theorem ok_checked_gram_SX (T : Top K mg) (hN : base.NoSeer) (hT : P.given.tree = none) : FnOk P w K mg base (L2N.CX P w) 44 T.a_checked_gram T.d_checked_gram ["gram"] (sp_checked_gram_SX K T.C_Grid T.X_Refused) := fn_or (ok_checked_gram_SL T hN hT) (ok_checked_gram_SR T hN hT)
def sp_Lattice_init_S (K : PySem.W.Frag) (CG CL : Addr) : Sp := fun vs H Q _ => ∃ (p dx a : Addr) (ws : List V) (m : List (List Int)) (n : Nat), vs = [.ref p, .ref a] ∧ H p = some (.ins CL dx []) ∧ Gm.Seq K H a ws ∧ Paired (IRow K H) ws m ∧ Gram n m ∧ ∀ g H', Off p H H' → H' p = some (.ins CL dx (fldG g)) → IsGrid K CG H' g m n → Q .non H'
theorem ok_Lattice_init_S (T : Top K mg) (hN : base.NoSeer) (hT : P.given.tree = none) : FnOk P w K mg base CX0 45 T.a_Lattice_init T.d_Lattice_init ["self", "gram"] (sp_Lattice_init_S K T.C_Grid T.C_Lattice) := by
  refine T.F_Lattice_init.ok sc_Lattice_init (fun vs H Q E h => ?_) (fun cdv A outer s H vs Q E hr h => ?_)
  · obtain ⟨p, dx, a, ws, m, n, rfl, _⟩ := h
    rfl
  · obtain ⟨p, dx, a, ws, m, n, rfl, hp, hs, hpr, gm, q⟩ := h
    refine ⟨_, (pss_one (ps_fld (pv 0) (pe_c (cal_checked_gram_S T hN hT) hr (by decide) (by rfl) (pa_cons (pv 1) pa_nil)) rfl)), ?_⟩
    refine ⟨_, rfl, a, ws, m, n, rfl, hs, hpr, gm, fun g H1 s1 G1 => ?_⟩
    have hp1 := s1 _ _ hp
    refine ⟨_, rfl, p, T.C_Lattice, dx, [], rfl, hp1, T.cl_Lattice, T.n_gram, by show 0 < 1000; decide, ?_⟩
    exact q g _ (fun b o n e => by rw [upd_ne n]; exact s1 _ _ e) upd_same (grid_off hp1 Off.upd G1)
theorem mak_Lattice_S (T : Top K mg) (hN : base.NoSeer) (hT : P.given.tree = none) : Mak P w K mg base 45 "Lattice" T.C_Lattice (sp_Lattice_init_S K T.C_Grid T.C_Lattice) [] := ⟨⟨_, _, _, [], T.mk_Lattice, ok_Lattice_init_S T hN hT, T.g_Lattice, T.b_Lattice_init, .nil⟩⟩
def sp_Lattice_init_SM (K : PySem.W.Frag) (CG X : Addr) : Sp := fun vs H _ E => ∃ (p : Addr) (g : V), vs = [.ref p, g] ∧ sp_checked_gram_SM K CG X [g] H (fun _ _ => False) E
theorem ok_Lattice_init_SM (T : Top K mg) (hN : base.NoSeer) (hT : P.given.tree = none) : FnOk P w K mg base (L2N.CX P w) 45 T.a_Lattice_init T.d_Lattice_init ["self", "gram"] (sp_Lattice_init_SM K T.C_Grid T.X_Malformed) := by
  refine okN T.F_Lattice_init sc_Lattice_init (fun vs H Q E h => ?_) (fun cdv A outer s H vs Q E hr h => ?_)
  · obtain ⟨p, g, rfl, _⟩ := h
    rfl
  · obtain ⟨p, g, rfl, q⟩ := h
    refine ⟨_, (pss_one (ps_fld (pv 0) (pe_call (E := E) (ok_checked_gram_SM T hN hT) (hr.mono (by decide)) (by rfl) T.g_checked_gram T.F_checked_gram.kp T.b_checked_gram .nil (L2N.passes_call (L2N.takes_of rfl rfl rfl rfl) (fun _ _ _ _ h => h)) (pa_cons (pv 1) pa_nil)) rfl)), ?_⟩
    refine ⟨_, rfl, ?_⟩
    exact q
def sp_Lattice_init_SR (K : PySem.W.Frag) (CG X : Addr) : Sp := fun vs H _ E => ∃ (p : Addr) (g : V), vs = [.ref p, g] ∧ sp_checked_gram_SX K CG X [g] H (fun _ _ => False) E
theorem ok_Lattice_init_SR (T : Top K mg) (hN : base.NoSeer) (hT : P.given.tree = none) : FnOk P w K mg base (L2N.CX P w) 45 T.a_Lattice_init T.d_Lattice_init ["self", "gram"] (sp_Lattice_init_SR K T.C_Grid T.X_Refused) := by
  refine okN T.F_Lattice_init sc_Lattice_init (fun vs H Q E h => ?_) (fun cdv A outer s H vs Q E hr h => ?_)
  · obtain ⟨p, g, rfl, _⟩ := h
    rfl
  · obtain ⟨p, g, rfl, q⟩ := h
    refine ⟨_, (pss_one (ps_fld (pv 0) (pe_call (E := E) (ok_checked_gram_SX T hN hT) (hr.mono (by decide)) (by rfl) T.g_checked_gram T.F_checked_gram.kp T.b_checked_gram .nil (L2N.passes_call (L2N.takes_of rfl rfl rfl rfl) (fun _ _ _ _ h => h)) (pa_cons (pv 1) pa_nil)) rfl)), ?_⟩
    refine ⟨_, rfl, ?_⟩
    exact q

end
end K50
namespace K50
open PySem PySem.Spec PyProof.Rows L2 Gm
open C8 (Cal Met Mak pe_c pe_mt pe_mt0 pe_mk)
section
variable {P : Program} {w : World} {K : PySem.W.Frag} {mg : Str → Option Value} {base : Heap}
/-! ### is_even -/
def ent (m : List (List Int)) (i j : Nat) : Int := (m.getD i []).getD j 0
theorem ent_get {n B : Nat} {m : List (List Int)} (h : Sq n B m) {i j : Nat} (hi : i < n) (hj : j < n) : ∃ r, m[i]? = some r ∧ r[j]? = some (ent m i j) ∧ (ent m i j).natAbs < 2 ^ B := by
  have hi' : i < m.length := by rw [h.len]; exact hi
  have hr := h.row m[i] (List.getElem_mem hi')
  have e : ent m i j = m[i][j]'(by omega) := by
    unfold ent
    rw [List.getD_eq_getElem?_getD (l := m), List.getElem?_eq_getElem hi', List.getD_eq_getElem?_getD]
    show ((m[i][j]?).getD 0) = _
    rw [List.getElem?_eq_getElem (by omega)]
    rfl
  refine ⟨m[i], List.getElem?_eq_getElem hi', ?_, ?_⟩
  · rw [e]
    exact List.getElem?_eq_getElem (by omega)
  · rw [e]
    exact h.bits m[i] (List.getElem_mem hi') _ (List.getElem_mem _)
theorem getD_get {v : List Int} {i : Nat} (h : i < v.length) : v[i]? = some (v.getD i 0) := by
  rw [List.getD_eq_getElem?_getD, List.getElem?_eq_getElem h]
  rfl
def evenM (n : Nat) (m : List (List Int)) : Bool := (List.range n).all fun k => decide (V.int (ent m k k % 2) = V.int 0)
def sp_Lattice_is_even (K : PySem.W.Frag) (CG CL : Addr) : Sp := fun vs H Q _ => ∃ v m n, vs = [v] ∧ IsLat K CG CL H v m n ∧ ∀ H', Same H H' → Q (.bl (evenM n m)) H'
inductive InV (K : PySem.W.Frag) (H : Hp) (n : Nat) : V → Bool → Prop
  | no {x : V} {t : String} (h : TyX K H x (.type t)) (e : PySem.W.kitOne K (.type t) (.type "tuple") = some false) : InV K H n x false
  | len {a : Addr} {xs : List V} (h : SqT K H a xs) (e : xs.length ≠ n) : InV K H n (.ref a) false
  | tup {a : Addr} {xs : List V} (h : SqT K H a xs) (e : xs.length = n) (f : ∀ x ∈ xs, Flat x) : InV K H n (.ref a) (xs.all isI)
def sp_Lattice_contains (K : PySem.W.Frag) (CG CL : Addr) : Sp := fun vs H Q _ => ∃ v m n x b, vs = [v, x] ∧ IsLat K CG CL H v m n ∧ InV K H n x b ∧ ∀ H', Same H H' → Q (.bl b) H'
theorem inv_row {K : PySem.W.Frag} {H : Hp} {n : Nat} {v : V} {r : List Int} (h : TRow K H v r) (e : r.length = n) : InV K H n v true := by
  obtain ⟨a, rfl, hs⟩ := h
  have := InV.tup (n := n) hs (by rw [List.length_map]; exact e) fun x hx => by
    obtain ⟨z, _, rfl⟩ := List.mem_map.mp hx
    exact .inl ⟨z, rfl⟩
  rw [List.all_map] at this
  have e2 : r.all (isI ∘ V.int) = true := List.all_eq_true.mpr fun _ _ => rfl
  rw [e2] at this
  exact this
def sp_check_vector (K : PySem.W.Frag) (CG CL : Addr) : Sp := fun vs H Q _ => ∃ v m n x, vs = [v, x] ∧ IsLat K CG CL H v m n ∧ InV K H n x true ∧ ∀ H', Same H H' → Q .non H'
def sp_check_vector_X (K : PySem.W.Frag) (CG CL X : Addr) : Sp := fun vs H _ E => ∃ v m n x, vs = [v, x] ∧ IsLat K CG CL H v m n ∧ InV K H n x false ∧ ∀ H', Same H H' → E (.ref X) none H'
theorem dot_bits' {B1 B2 : Nat} {xs ys : List Int} (h1 : Bits B1 xs) (h2 : Bits B2 ys) (hl : xs.length ≤ 4) : (dotI xs ys).natAbs < 2 ^ (B1 + B2 + 3) := by
  have h : (dotI xs ys).natAbs ≤ (List.zipWith (· * ·) xs ys).length * (2 ^ B1 * 2 ^ B2) := by
    refine sum_le fun z hz => ?_
    obtain ⟨k, hk⟩ := List.getElem?_of_mem hz
    rw [List.getElem?_zipWith] at hk
    cases e1 : xs[k]? with
    | none => rw [e1] at hk; cases hk
    | some a =>
      cases e2 : ys[k]? with
      | none => rw [e1, e2] at hk; cases hk
      | some b =>
        rw [e1, e2] at hk
        rw [← Option.some.inj hk, Int.natAbs_mul]
        exact Nat.mul_le_mul (Nat.le_of_lt (h1.at e1)) (Nat.le_of_lt (h2.at e2))
  have h3 : (List.zipWith (· * ·) xs ys).length ≤ 4 := by
    rw [List.length_zipWith]
    omega
  have h4 : (List.zipWith (· * ·) xs ys).length * (2 ^ B1 * 2 ^ B2) ≤ 4 * (2 ^ B1 * 2 ^ B2) := Nat.mul_le_mul_right _ h3
  have h5 : 2 ^ (B1 + B2 + 3) = 8 * (2 ^ B1 * 2 ^ B2) := by
    rw [Nat.pow_add, Nat.pow_add, Nat.mul_comm]
  have h6 : 0 < 2 ^ B1 * 2 ^ B2 := Nat.mul_pos (Nat.two_pow_pos _) (Nat.two_pow_pos _)
  omega
def sp_Lattice_product (K : PySem.W.Frag) (CG CL : Addr) : Sp := fun vs H Q _ => ∃ v m n x y xs ys, vs = [v, x, y] ∧ IsLat K CG CL H v m n ∧ TRow K H x xs ∧ TRow K H y ys ∧ xs.length = n ∧ ys.length = n ∧ Bits 8 xs ∧ Bits 8 ys ∧ ∀ H', Same H H' → Q (.int (dotI (timesM m xs) ys)) H'
def sp_Lattice_product_XV (K : PySem.W.Frag) (CG CL X : Addr) : Sp := fun vs H _ E => ∃ v m n x y, vs = [v, x, y] ∧ IsLat K CG CL H v m n ∧ InV K H n x false ∧ ∀ H', Same H H' → E (.ref X) none H'
def sp_Lattice_product_XW (K : PySem.W.Frag) (CG CL X : Addr) : Sp := fun vs H _ E => ∃ v m n x xs y, vs = [v, x, y] ∧ IsLat K CG CL H v m n ∧ TRow K H x xs ∧ xs.length = n ∧ (∀ H', Same H H' → InV K H' n y false) ∧ ∀ H', Same H H' → E (.ref X) none H'
def sp_Lattice_norm (K : PySem.W.Frag) (CG CL : Addr) : Sp := fun vs H Q _ => ∃ v m n x xs, vs = [v, x] ∧ IsLat K CG CL H v m n ∧ TRow K H x xs ∧ xs.length = n ∧ Bits 8 xs ∧ ∀ H', Same H H' → Q (.int (dotI (timesM m xs) xs)) H'
def sp_Lattice_norm_X (K : PySem.W.Frag) (CG CL X : Addr) : Sp := fun vs H _ E => ∃ v m n x, vs = [v, x] ∧ IsLat K CG CL H v m n ∧ InV K H n x false ∧ ∀ H', Same H H' → E (.ref X) none H'
theorem nfLG (T : Top K mg) : PySem.W.notFirst K T.C_Lattice (.ref T.C_Grid) = true := by
  unfold PySem.W.notFirst
  rw [T.sub_GL]
  simp
theorem ne_GL (T : Top K mg) : T.C_Grid ≠ T.C_Lattice := fun e => by
  have h := T.sub_GL
  rw [e, T.se_L] at h
  cases h
theorem kit_GL (T : Top K mg) : PySem.W.kitOne K (.ref T.C_Grid) (.ref T.C_Lattice) = some false := by
  show (if (Value.ref T.C_Grid == Value.ref T.C_Lattice) = true then some true else if ((PySem.W.clsIn K T.C_Lattice).isSome && PySem.W.typeIn K (.ref T.C_Lattice) == some (.type "type")) = true then PySem.W.subIn K (.ref T.C_Grid) (.ref T.C_Lattice) else none) = some false
  have e2 : ((PySem.W.clsIn K T.C_Lattice).isSome && PySem.W.typeIn K (.ref T.C_Lattice) == some (.type "type")) = true := by
    have e := T.ic_Lattice
    have e' : (PySem.W.clsIn K T.C_Lattice).isSome = true := e
    rw [e', T.ty_Lattice] <;> rfl
  have e1 : ¬ (Value.ref T.C_Grid == Value.ref T.C_Lattice) = true := fun h => ne_GL T (Value.ref.inj (beq_iff_eq.mp h))
  rw [if_neg e1, if_pos e2]
  exact T.sub_GL
def sp_Lattice_eq (K : PySem.W.Frag) (CG CL : Addr) : Sp := fun vs H Q _ => ∃ v m n u, vs = [v, u] ∧ IsLat K CG CL H v m n ∧ ((∃ m2 n2, IsLat K CG CL H u m2 n2 ∧ Q (.bl (decide (m = m2 ∧ n = n2))) H) ∨ ((∃ t, TyX K H u t ∧ PySem.W.kitOne K t (.ref CL) = some false) ∧ Q (.bl false) H))
theorem ok_Lattice_eq (T : Top K mg) (hN : base.NoSeer) (hT : P.given.tree = none) : FnOk P w K mg base CX0 2 T.a_Lattice_eq T.d_Lattice_eq ["self", "other"] (sp_Lattice_eq K T.C_Grid T.C_Lattice) := by
  refine T.F_Lattice_eq.ok sc_Lattice_eq (fun vs H Q E h => ?_) (fun cdv A outer s H vs Q E hr h => ?_)
  · obtain ⟨v, m, n, u, rfl, _⟩ := h
    rfl
  · obtain ⟨v, m, n, u, rfl, L, q⟩ := h
    obtain ⟨p, dx, g, rfl, ho, G⟩ := L.obj
    refine ⟨_, (pss_one (ps_ret (pe_and (pe_callB (isiK K rfl) (by rfl) T.z_isinstance (by decide +kernel) (pa_cons (pv 1) (pa_cons (pe_glob (by rfl) T.g_Lattice (show RelV (.ref T.C_Lattice) _ from rfl)) pa_nil))) (pe_one (pe_cmpR ((op_ownCmp (op := .Eq) (E := L2.E0) (fun _ _ => rfl) T.m_Grid_eq.at_ T.m_Grid_eq.fn (ok_Grid_eq T hN hT) (hr.mono (by decide)) T.b_Grid_eq pass0)) (fldK K rfl (pv 0) rfl) (fldK K rfl (pv 1) rfl) (nomark _)))))), ?_⟩
    rcases q with ⟨m2, n2, L2', q⟩ | ⟨⟨t, ht, hk⟩, q⟩
    · obtain ⟨p2, dx2, g2, rfl, ho2, G2⟩ := L2'.obj
      refine ⟨_, rfl, .ref p2, .ref T.C_Lattice, _, _, true, rfl, .own _, .base (.ins ho2 T.cl_Lattice T.kc_Lattice T.kg_Lattice T.kt_Lattice T.km_Lattice), kit_self, true, rfl, ?_⟩
      refine iteT ?_
      obtain ⟨⟨pg, dg, tg, rfl, hog, _⟩, _⟩ := id G
      obtain ⟨⟨pg2, dg2, tg2, rfl, hog2, _⟩, _⟩ := id G2
      exact ⟨_, rfl, p, T.C_Lattice, dx, _, _, rfl, ho, T.cl_Lattice, T.n_gram, fldG_gram _, _, rfl, p2, T.C_Lattice, dx2, _, _, rfl, ho2, T.cl_Lattice, T.n_gram, fldG_gram _, pg, pg2, dg, dg2, _, _, rfl, rfl, hog, hog2, _, m, n, _, m2, rfl, G, .inl ⟨n2, G2, q⟩⟩
    · refine ⟨_, rfl, u, .ref T.C_Lattice, _, _, false, rfl, .own _, ht, hk, false, rfl, ?_⟩
      exact iteF q

end
end K50
namespace K50
open PySem PySem.Spec PyProof.Rows L2 Gm
open C8 (Cal Met Mak pe_c pe_mt pe_mt0 pe_mk)
section
variable {P : Program} {w : World} {K : PySem.W.Frag} {mg : Str → Option Value} {base : Heap}
def LRow (H : Hp) (v : V) (r : List Int) : Prop := ∃ a, v = .ref a ∧ H a = some (.lst (r.map V.int))
def LRows (H : Hp) (v : V) (m : List (List Int)) : Prop := ∃ a ws, v = .ref a ∧ H a = some (.lst ws) ∧ Paired (LRow H) ws m
theorem LRow.same {H H' : Hp} {v : V} {r : List Int} (s : Same H H') (h : LRow H v r) : LRow H' v r := let ⟨a, e, x⟩ := h; ⟨a, e, s _ _ x⟩
theorem LRows.same {H H' : Hp} {v : V} {m : List (List Int)} (s : Same H H') (h : LRows H v m) : LRows H' v m := let ⟨a, ws, e, x, p⟩ := h; ⟨a, ws, e, s _ _ x, L2.Paired.mapP p fun _ _ => LRow.same s⟩
theorem sl_lst {K : PySem.W.Frag} {H : Hp} {a : Addr} {xs : List V} {lo hi : Option Int} {Q : VK} (h : H a = some (.lst xs)) (q : ∀ p, H p = none → Q (.ref p) (upd H p (.lst (cutV xs lo hi)))) : rSlL K (.ref a) lo hi H Q := ⟨a, xs, rfl, .inl (.inl h), q⟩
theorem lmono {D : Addr} {m : List (List Int)} (i : Nat) (v : V) (H H' : Hp) (acc : List V) (_ : H D = some (.lst acc)) (o : Off D H H') (h : ∃ r, m[i]? = some r ∧ ∃ p, v = V.ref p ∧ p ≠ D ∧ H p = some (.lst (r.map V.int))) : ∃ r, m[i]? = some r ∧ ∃ p, v = V.ref p ∧ p ≠ D ∧ H' p = some (.lst (r.map V.int)) := let ⟨r, er, p, ev, ne, eh⟩ := h; ⟨r, er, p, ev, ne, o _ _ ne eh⟩
theorem lrows_of {D : Addr} {H : Hp} {l : List V} {m : List (List Int)} {n : Nat} (hn : n = m.length) (e : H D = some (.lst l)) (h : Paired (fun (i : Nat) v => ∃ r, m[i]? = some r ∧ ∃ p, v = V.ref p ∧ p ≠ D ∧ H p = some (.lst (r.map V.int))) (List.range n) l) : LRows H (.ref D) m :=
  ⟨D, l, rfl, e, L2.Paired.mapP (paired_at (F := fun v r => ∃ p, v = V.ref p ∧ p ≠ D ∧ H p = some (.lst (r.map V.int))) hn h) fun _ _ ⟨p, ev, _, eh⟩ => ⟨p, ev, eh⟩⟩
/-- a list of lists apart from two others -/
def LA (p R : Addr) (H : Hp) (v : V) (r : List Int) : Prop := ∃ q, v = .ref q ∧ q ≠ p ∧ q ≠ R ∧ H q = some (.lst (r.map V.int))
theorem LA.same {p R : Addr} {H H' : Hp} {v : V} {r : List Int} (s : Same H H') (h : LA p R H v r) : LA p R H' v r := let ⟨q, e, n1, n2, x⟩ := h; ⟨q, e, n1, n2, s _ _ x⟩
theorem LA.offp {p R : Addr} {H H' : Hp} {v : V} {r : List Int} (o : Off p H H') (h : LA p R H v r) : LA p R H' v r := let ⟨q, e, n1, n2, x⟩ := h; ⟨q, e, n1, n2, o _ _ n1 x⟩
theorem LA.offR {p R : Addr} {H H' : Hp} {v : V} {r : List Int} (o : Off R H H') (h : LA p R H v r) : LA p R H' v r := let ⟨q, e, n1, n2, x⟩ := h; ⟨q, e, n1, n2, o _ _ n2 x⟩
theorem LA.row {p R : Addr} {H : Hp} {v : V} {r : List Int} (h : LA p R H v r) : LRow H v r := let ⟨q, e, _, _, x⟩ := h; ⟨q, e, x⟩
theorem la_upd {p R q : Addr} {H : Hp} {r' : List Int} : ∀ {gl : List V} {ms : List (List Int)} {i : Nat}, Paired (LA p R H) gl ms → gl.Nodup → gl[i]? = some (.ref q) → Paired (LA p R (upd H q (.lst (r'.map V.int)))) gl (ms.set i r')
  | _, _, i, .nil, _, h => by simp at h
  | v :: gl, r :: ms, 0, .cons x xs, nd, h => by
    obtain ⟨a, e, n1, n2, hx⟩ := x
    have hv : v = .ref q := by simpa using h
    rw [hv] at e
    cases e
    refine .cons ⟨q, hv, n1, n2, upd_same⟩ ?_
    have hq : .ref q ∉ gl := by rw [← hv]; exact (List.nodup_cons.mp nd).1
    exact go xs hq
  | v :: gl, r :: ms, i + 1, .cons x xs, nd, h => by
    obtain ⟨a, e, n1, n2, hx⟩ := x
    have hm : V.ref q ∈ gl := List.mem_of_getElem? (by simpa using h)
    refine .cons ⟨a, e, n1, n2, ?_⟩ (la_upd xs (List.nodup_cons.mp nd).2 (by simpa using h))
    rw [L2.upd_ne]
    · exact hx
    · rintro rfl
      rw [← e] at hm
      exact (List.nodup_cons.mp nd).1 hm
where
  go {p R q : Addr} {H : Hp} {r' : List Int} : ∀ {gl : List V} {ms : List (List Int)}, Paired (LA p R H) gl ms → .ref q ∉ gl → Paired (LA p R (upd H q (.lst (r'.map V.int)))) gl ms
    | _, _, .nil, _ => .nil
    | v :: gl, r :: ms, .cons x xs, nd => by
      obtain ⟨a, e, n1, n2, hx⟩ := x
      refine .cons ⟨a, e, n1, n2, ?_⟩ (go xs fun h => nd (List.mem_cons_of_mem _ h))
      rw [L2.upd_ne]
      · exact hx
      · rintro rfl
        exact nd (by rw [e]; exact List.mem_cons_self ..)
/-- a list of lists that is apart from p -/
def LAs (p : Addr) (H : Hp) (v : V) (m : List (List Int)) : Prop := ∃ a ws, v = .ref a ∧ a ≠ p ∧ H a = some (.lst ws) ∧ Paired (LA p p H) ws m
theorem LAs.rows {p : Addr} {H : Hp} {v : V} {m : List (List Int)} (h : LAs p H v m) : LRows H v m := let ⟨a, ws, e, _, x, q⟩ := h; ⟨a, ws, e, x, L2.Paired.mapP q fun _ _ => LA.row⟩
theorem LAs.offp {p : Addr} {H H' : Hp} {v : V} {m : List (List Int)} (o : Off p H H') (h : LAs p H v m) : LAs p H' v m := let ⟨a, ws, e, n, x, q⟩ := h; ⟨a, ws, e, n, o _ _ n x, L2.Paired.mapP q fun _ _ => LA.offp o⟩
theorem LAs.same {p : Addr} {H H' : Hp} {v : V} {m : List (List Int)} (s : Same H H') (h : LAs p H v m) : LAs p H' v m := h.offp (Same.off s)
theorem LRows.irows {K : PySem.W.Frag} {H : Hp} {v : V} {m : List (List Int)} (h : LRows H v m) : IRows K H v m := let ⟨a, ws, e, x, q⟩ := h; ⟨a, ws, e, .inl (.inl (.inl x)), L2.Paired.mapP q fun _ _ ⟨b, eb, xb⟩ => ⟨b, eb, .inl (.inl (.inl xb))⟩⟩

/-! ### _law_gram -/
theorem ent_of {m : List (List Int)} {i j : Nat} {r : List Int} (h : m[i]? = some r) : ent m i j = r.getD j 0 := by
  unfold ent
  rw [List.getD_eq_getElem?_getD (l := m), h]
  rfl
theorem ent_set {m : List (List Int)} {i j : Nat} {r : List Int} {z : Int} (h : m[i]? = some r) (hj : j < r.length) (a b : Nat) : ent (m.set i (r.set j z)) a b = if a = i ∧ b = j then z else ent m a b := by
  have hi := (List.getElem?_eq_some_iff.mp h).1
  unfold ent
  rw [List.getD_eq_getElem?_getD (l := List.set ..), List.getElem?_set]
  by_cases h1 : i = a
  · subst h1
    rw [if_pos rfl, if_pos hi]
    show (r.set j z).getD b 0 = _
    rw [List.getD_eq_getElem?_getD, List.getElem?_set]
    by_cases h2 : j = b
    · subst h2
      rw [if_pos rfl, if_pos hj, if_pos ⟨rfl, rfl⟩]
      rfl
    · rw [if_neg h2, if_neg (fun h => h2 h.2.symm), List.getD_eq_getElem?_getD (l := m), h]
      rw [← List.getD_eq_getElem?_getD]
      rfl
  · rw [if_neg h1, if_neg (fun h => h1 h.1.symm), ← List.getD_eq_getElem?_getD]
structure SymZ (n : Nat) (m : List (List Int)) : Prop where
  sq : Sq n 1 m
  sym : ∀ a b, a < n → b < n → ent m a b = ent m b a
  zero : ∀ a, a < n → ent m a a = 0
theorem sq_set {n B i j : Nat} {m : List (List Int)} {r : List Int} {z : Int} (h : Sq n B m) (hr : m[i]? = some r) (hz : z.natAbs < 2 ^ B) : Sq n B (m.set i (r.set j z)) := by
  have hm := List.mem_of_getElem? hr
  refine ⟨by rw [List.length_set]; exact h.len, fun q hq => ?_, fun q hq => ?_⟩
  · rcases List.mem_or_eq_of_mem_set hq with h1 | h1
    · exact h.row q h1
    · rw [h1, List.length_set]
      exact h.row r hm
  · rcases List.mem_or_eq_of_mem_set hq with h1 | h1
    · exact h.bits q h1
    · rw [h1]
      intro x hx
      rcases List.mem_or_eq_of_mem_set hx with h2 | h2
      · exact h.bits r hm x h2
      · rw [h2]
        exact hz
theorem symZ_set {n i j : Nat} {m : List (List Int)} {r r2 : List Int} {z : Int} (h : SymZ n m) (hij : j < i) (hi : i < n) (hr : m[i]? = some r) (hr2 : (m.set i (r.set j z))[j]? = some r2) (hz : z.natAbs < 2) : SymZ n ((m.set i (r.set j z)).set j (r2.set i z)) := by
  have s1 := sq_set (j := j) h.sq hr (z := z) hz
  have hrl := h.sq.row r (List.mem_of_getElem? hr)
  have hr2l := s1.row r2 (List.mem_of_getElem? hr2)
  refine ⟨sq_set s1 hr2 hz, fun a b ha hb => ?_, fun a ha => ?_⟩
  · have h0 := h.sym a b ha hb
    rw [ent_set hr2 (by omega), ent_set hr2 (by omega), ent_set hr (by omega), ent_set hr (by omega)]
    by_cases e1 : a = j ∧ b = i
    · rw [if_pos e1, if_neg (by omega), if_pos ⟨e1.2, e1.1⟩]
    · by_cases e2 : b = j ∧ a = i
      · rw [if_neg e1, if_pos ⟨e2.2, e2.1⟩, if_pos e2]
      · rw [if_neg e1, if_neg (by omega), if_neg e2, if_neg (by omega)]
        exact h0
  · have h0 := h.zero a ha
    rw [ent_set hr2 (by omega), ent_set hr (by omega), if_neg (by omega), if_neg (by omega)]
    exact h0
def aI (z : Int) : Int := if z < 0 then -z else z
def sumA (r : List Int) : Int := (r.map aI).sum
def dgM (rs : List (List Int)) (t : Nat → Int) (i : Nat) : List (List Int) := (List.range rs.length).map fun a => if a < i then (rs.getD a []).set a (1 + t a + sumA (rs.getD a [])) else rs.getD a []
theorem dgM_get {rs : List (List Int)} {t : Nat → Int} {i a : Nat} (h : a < rs.length) : (dgM rs t i)[a]? = some (if a < i then (rs.getD a []).set a (1 + t a + sumA (rs.getD a [])) else rs.getD a []) := by
  unfold dgM
  rw [List.getElem?_map, List.getElem?_range h]
  rfl
theorem dgM_none {rs : List (List Int)} {t : Nat → Int} {i a : Nat} (h : ¬ a < rs.length) : (dgM rs t i)[a]? = none := by
  unfold dgM
  rw [List.getElem?_map, List.getElem?_eq_none (by rw [List.length_range]; omega)]
  rfl
theorem dgM_0 (rs : List (List Int)) (t : Nat → Int) : dgM rs t 0 = rs := by
  apply List.ext_getElem?
  intro a
  by_cases h : a < rs.length
  · rw [dgM_get h, if_neg (by omega), List.getD_eq_getElem?_getD, List.getElem?_eq_getElem h]
    rfl
  · rw [dgM_none h, List.getElem?_eq_none (by omega)]
theorem dgM_step {rs : List (List Int)} {t : Nat → Int} {i : Nat} {r : List Int} {z : Int} (h : rs[i]? = some r) : (dgM rs t i).set i (r.set i (1 + z + sumA r)) = dgM rs (fun a => if a = i then z else t a) (i + 1) := by
  have hi := (List.getElem?_eq_some_iff.mp h).1
  have hl : (dgM rs t i).length = rs.length := by unfold dgM; rw [List.length_map, List.length_range]
  apply List.ext_getElem?
  intro a
  rw [List.getElem?_set]
  by_cases h1 : i = a
  · subst h1
    rw [if_pos rfl, if_pos (by omega), dgM_get hi, if_pos (by omega), if_pos rfl, List.getD_eq_getElem?_getD, h]
    rfl
  · rw [if_neg h1]
    by_cases h2 : a < rs.length
    · rw [dgM_get h2, dgM_get h2, if_neg (c := a = i) (fun e => h1 e.symm)]
      by_cases h3 : a < i
      · rw [if_pos h3, if_pos (by omega)]
      · rw [if_neg h3, if_neg (by omega)]
    · rw [dgM_none h2, dgM_none h2]
def U1 (x : Int) : Prop := x = -1 ∨ x = 0 ∨ x = 1
/-- a Gram matrix as the law makes it -/
inductive Dom : Nat → List (List Int) → Prop
  | one {t : Int} : 0 ≤ t → t ≤ 3 → Dom 1 [[1 + t]]
  | two {x t u : Int} : U1 x → 0 ≤ t → t ≤ 3 → 0 ≤ u → u ≤ 3 → Dom 2 [[1 + t + aI x, x], [x, 1 + u + aI x]]
  | three {x y z t u v : Int} : U1 x → U1 y → U1 z → 0 ≤ t → t ≤ 3 → 0 ≤ u → u ≤ 3 → 0 ≤ v → v ≤ 3 → Dom 3 [[1 + t + (aI x + aI y), x, y], [x, 1 + u + (aI x + aI z), z], [y, z, 1 + v + (aI y + aI z)]]
/-- one more at the first place -/
def incM : List (List Int) → List (List Int)
  | (z :: r) :: m => ((z + 1) :: r) :: m
  | m => m
theorem dom_of {n : Nat} {rs : List (List Int)} {t : Nat → Int} (hn : 0 < n) (hn3 : n ≤ 3) (h : SymZ n rs) (ht : ∀ a, 0 ≤ t a ∧ t a ≤ 2) : Dom n (dgM rs t n) ∧ Dom n (incM (dgM rs t n)) := by
  have t0 := ht 0
  have t1 := ht 1
  have t2 := ht 2
  have u1 : ∀ x : Int, x.natAbs < 2 → U1 x := fun x hx => by unfold U1; omega
  have a0 : aI 0 = 0 := rfl
  obtain rfl | rfl | rfl : n = 1 ∨ n = 2 ∨ n = 3 := by omega
  · obtain ⟨a, rfl⟩ := sz1 h.sq.sz
    obtain rfl : a = 0 := h.zero 0 (by decide)
    have e : dgM [[0]] t 1 = [[1 + t 0]] := by
      show [[1 + t 0 + (aI 0 + 0)]] = _
      rw [a0, Int.add_zero, Int.add_zero]
    rw [e]
    refine ⟨.one t0.1 (by omega), ?_⟩
    show Dom 1 [[1 + t 0 + 1]]
    rw [Int.add_assoc]
    exact .one (by omega) (by omega)
  · obtain ⟨a, b, c, d, rfl⟩ := sz2 h.sq.sz
    obtain rfl : a = 0 := h.zero 0 (by decide)
    obtain rfl : d = 0 := h.zero 1 (by decide)
    obtain rfl : b = c := h.sym 0 1 (by decide) (by decide)
    have e : dgM [[0, b], [b, 0]] t 2 = [[1 + t 0 + aI b, b], [b, 1 + t 1 + aI b]] := by
      show [[1 + t 0 + (aI 0 + (aI b + 0)), b], [b, 1 + t 1 + (aI b + (aI 0 + 0))]] = _
      rw [a0, Int.add_zero, Int.add_zero, Int.add_zero, Int.zero_add]
    rw [e]
    have hb := h.sq.bits [0, b] (by simp) b (by simp)
    refine ⟨.two (u1 b hb) t0.1 (by omega) t1.1 (by omega), ?_⟩
    show Dom 2 [[1 + t 0 + aI b + 1, b], [b, 1 + t 1 + aI b]]
    rw [show 1 + t 0 + aI b + 1 = 1 + (t 0 + 1) + aI b by omega]
    exact .two (u1 b hb) (by omega) (by omega) t1.1 (by omega)
  · obtain ⟨a, b, c, d, e, f, g, k, l, rfl⟩ := sz3 h.sq.sz
    obtain rfl : a = 0 := h.zero 0 (by decide)
    obtain rfl : e = 0 := h.zero 1 (by decide)
    obtain rfl : l = 0 := h.zero 2 (by decide)
    obtain rfl : b = d := h.sym 0 1 (by decide) (by decide)
    obtain rfl : c = g := h.sym 0 2 (by decide) (by decide)
    obtain rfl : f = k := h.sym 1 2 (by decide) (by decide)
    have e : dgM [[0, b, c], [b, 0, f], [c, f, 0]] t 3 = [[1 + t 0 + (aI b + aI c), b, c], [b, 1 + t 1 + (aI b + aI f), f], [c, f, 1 + t 2 + (aI c + aI f)]] := by
      show [[1 + t 0 + (aI 0 + (aI b + (aI c + 0))), b, c], [b, 1 + t 1 + (aI b + (aI 0 + (aI f + 0))), f], [c, f, 1 + t 2 + (aI c + (aI f + (aI 0 + 0)))]] = _
      rw [a0, Int.add_zero, Int.add_zero, Int.add_zero, Int.zero_add, Int.zero_add, Int.add_zero]
    rw [e]
    have hb := h.sq.bits [0, b, c] (by simp) b (by simp)
    have hc := h.sq.bits [0, b, c] (by simp) c (by simp)
    have hf := h.sq.bits [b, 0, f] (by simp) f (by simp)
    refine ⟨.three (u1 b hb) (u1 c hc) (u1 f hf) t0.1 (by omega) t1.1 (by omega) t2.1 (by omega), ?_⟩
    show Dom 3 [[1 + t 0 + (aI b + aI c) + 1, b, c], [b, 1 + t 1 + (aI b + aI f), f], [c, f, 1 + t 2 + (aI c + aI f)]]
    rw [show 1 + t 0 + (aI b + aI c) + 1 = 1 + (t 0 + 1) + (aI b + aI c) by omega]
    exact .three (u1 b hb) (u1 c hc) (u1 f hf) (by omega) (by omega) t1.1 (by omega) t2.1 (by omega)
/-- rows that are changed in place -/
def RowsAt (p R : Addr) (H0 H : Hp) (ms : List (List Int)) : Prop := ∃ gl, H R = some (.lst gl) ∧ gl.Nodup ∧ (∀ q, V.ref q ∈ gl → H0 q = none) ∧ Paired (LA p R H) gl ms
theorem RowsAt.offp {p R : Addr} {H0 H H' : Hp} {ms : List (List Int)} (n : p ≠ R) (o : Off p H H') (h : RowsAt p R H0 H ms) : RowsAt p R H0 H' ms :=
  let ⟨gl, e, nd, f, q⟩ := h; ⟨gl, o _ _ (Ne.symm n) e, nd, f, L2.Paired.mapP q fun _ _ => LA.offp o⟩
theorem RowsAt.same {p R : Addr} {H0 H H' : Hp} {ms : List (List Int)} (s : Same H H') (h : RowsAt p R H0 H ms) : RowsAt p R H0 H' ms :=
  let ⟨gl, e, nd, f, q⟩ := h; ⟨gl, s _ _ e, nd, f, L2.Paired.mapP q fun _ _ => LA.same s⟩
theorem RowsAt.get {p R : Addr} {H0 H : Hp} {ms : List (List Int)} {i : Nat} {r : List Int} (h : RowsAt p R H0 H ms) (e : ms[i]? = some r) :
    ∃ gl q, H R = some (.lst gl) ∧ gl[i]? = some (V.ref q) ∧ H q = some (.lst (r.map V.int)) ∧ q ≠ p ∧ H0 q = none ∧ ∀ r' : List Int, RowsAt p R H0 (upd H q (.lst (r'.map V.int))) (ms.set i r') := by
  obtain ⟨gl, eR, nd, f, hp⟩ := h
  obtain ⟨v, ev, q, rfl, qp, qR, hq⟩ := Paired.getL hp e
  exact ⟨gl, q, eR, ev, hq, qp, f q (List.mem_of_getElem? ev), fun r' => ⟨gl, by rw [L2.upd_ne (Ne.symm qR)]; exact eR, nd, f, la_upd hp nd ev⟩⟩
theorem StAt.offr {p q : Addr} {H : Hp} {o : HO} (n : q ≠ p) (h : StAt H p) : StAt (upd H q o) p := let ⟨s, t, e, h0⟩ := h; ⟨s, t, by rw [L2.upd_ne (Ne.symm n)]; exact e, h0⟩
theorem StAt.same {p : Addr} {H H' : Hp} (s : Same H H') (h : StAt H p) : StAt H' p := let ⟨a, t, e, h0⟩ := h; ⟨a, t, s _ _ e, h0⟩
theorem StAt.ne {p q : Addr} {H : Hp} (h : StAt H p) (n : H q = none) : p ≠ q := let ⟨_, _, e, _⟩ := h; ne_of_none e n

end
end K50
namespace K50
open PySem PySem.Spec PyProof.Rows L2 Gm
open C8 (Cal Met Mak pe_c pe_mt pe_mt0 pe_mk)
section
variable {P : Program} {w : World} {K : PySem.W.Frag} {mg : Str → Option Value} {base : Heap}
theorem pss_wk {X : Cx} {st : List Stmt} {t t' : TS} (h : PSs X st t) (hm : ∀ D σ H, t' D σ H → t D σ H) : PSs X st t' := ⟨fun pins s σ H D I q => h.run pins s σ H D I (hm D σ H q)⟩
def tK (M : L2.St → Hp → Prop) : TS := fun D σ H => M σ H ∧ ∀ H', D.rt (.bl true) H'
abbrev XL (P : Program) (w : World) {K : PySem.W.Frag} {mg : Str → Option Value} (base : Heap) (T : Top K mg) (cdv : Value) (A : Around) (outer : List Env) (s : Shared) (H : Hp) (E : XK) : Cx :=
  (cxOf CX0 P w K mg base ["script", "numbers", "command", "words", "line", "bad", "pick", "value", "names"] "law" (defScope s_law) T.a_law cdv A outer s H E).nox
def sp_law (K : PySem.W.Frag) : Sp := fun vs H Q _ => ∃ (a : Addr) (ns : List Int), vs = [.ref a] ∧ SqL K H a (ns.map V.int) ∧ ns.length ≤ 63 ∧ (∀ z ∈ ns, Builtin.Int.intBits z ≤ 1048576) ∧ ∀ H', Q (.bl true) H'
theorem gridS {K : PySem.W.Frag} {C : Addr} {H H' : Hp} {p : Addr} {v : V} {m : List (List Int)} {w : Nat} (st : StAt H p) (o : Off p H H') (h : IsGrid K C H v m w) : IsGrid K C H' v m w := by
  obtain ⟨⟨q, dx, t, e, ho, ht⟩, hw⟩ := h
  obtain ⟨s0, t0, el, _⟩ := st
  exact ⟨⟨q, dx, t, e, o _ _ (ne_of ho el (by intro z; cases z)) ho, ht.off el o⟩, hw⟩
theorem latS {K : PySem.W.Frag} {CG CL : Addr} {H H' : Hp} {p : Addr} {v : V} {m : List (List Int)} {n : Nat} (st : StAt H p) (o : Off p H H') (h : IsLat K CG CL H v m n) : IsLat K CG CL H' v m n := by
  obtain ⟨⟨q, dx, g, e, ho, G⟩, gm⟩ := h
  obtain ⟨s0, t0, el, h0⟩ := id st
  exact ⟨⟨q, dx, g, e, o _ _ (ne_of ho el (by intro z; cases z)) ho, gridS st o G⟩, gm⟩
theorem rowS {K : PySem.W.Frag} {H H' : Hp} {p : Addr} {v : V} {x : List Int} (st : StAt H p) (o : Off p H H') (h : TRow K H v x) : TRow K H' v x := let ⟨_, _, el, _⟩ := st; TRow.off el o h

end
end K50
namespace K50
open PySem PySem.Spec PyProof.Rows L2 Gm
open C8 (Cal Met Mak pe_c pe_mt pe_mt0 pe_mk)
section
variable {P : Program} {w : World} {K : PySem.W.Frag} {mg : Str → Option Value} {base : Heap}
theorem exm1 {K : PySem.W.Frag} {S : Addr} (h1 : PySem.W.subIn K (.ref S) (.type "BaseException") = some true) (h2 : PySem.W.isClsIn K S = true) (h3 : PySem.W.typeIn K (.ref S) = some (.type "type")) (h4 : PySem.W.subIn K (.ref S) (.ref S) = some true) :
    PySem.W.exmOne K (.ref S) (.ref S) = some true := by
  have e1 : (PySem.W.subIn K (.ref S) (.type "BaseException") == some true) = true := by rw [h1] <;> rfl
  have e2 : ((PySem.W.clsIn K S).isSome && PySem.W.typeIn K (.ref S) == some (.type "type")) = true := by
    have h2' : (PySem.W.clsIn K S).isSome = true := h2
    rw [h2', h3] <;> rfl
  show (if (PySem.W.subIn K (.ref S) (.type "BaseException") == some true) = true then (if ((PySem.W.clsIn K S).isSome && PySem.W.typeIn K (.ref S) == some (.type "type")) = true then PySem.W.subIn K (.ref S) (.ref S) else none) else none) = some true
  rw [if_pos e1, if_pos e2]
  exact h4
theorem exmR {K : PySem.W.Frag} {S : Addr} {cls : Value} {b : Bool} (h1 : PySem.W.subIn K (.ref S) (.type "BaseException") = some true) (h2 : PySem.W.isClsIn K S = true) (h3 : PySem.W.typeIn K (.ref S) = some (.type "type")) (h4 : PySem.W.subIn K cls (.ref S) = some b) :
    PySem.W.exmOne K cls (.ref S) = some b := by
  have e1 : (PySem.W.subIn K (.ref S) (.type "BaseException") == some true) = true := by rw [h1] <;> rfl
  have e2 : ((PySem.W.clsIn K S).isSome && PySem.W.typeIn K (.ref S) == some (.type "type")) = true := by
    have h2' : (PySem.W.clsIn K S).isSome = true := h2
    rw [h2', h3] <;> rfl
  show (if (PySem.W.subIn K (.ref S) (.type "BaseException") == some true) = true then (if ((PySem.W.clsIn K S).isSome && PySem.W.typeIn K (.ref S) == some (.type "type")) = true then PySem.W.subIn K cls (.ref S) else none) else none) = some b
  rw [if_pos e1, if_pos e2]
  exact h4
theorem kitR {K : PySem.W.Frag} {S D : Addr} (h2 : PySem.W.isClsIn K S = true) (h3 : PySem.W.typeIn K (.ref S) = some (.type "type")) (h4 : PySem.W.subIn K (.ref D) (.ref S) = some true) : PySem.W.kitOne K (.ref D) (.ref S) = some true := by
  have e2 : ((PySem.W.clsIn K S).isSome && PySem.W.typeIn K (.ref S) == some (.type "type")) = true := by
    have h2' : (PySem.W.clsIn K S).isSome = true := h2
    rw [h2', h3] <;> rfl
  show (if (Value.ref D == Value.ref S) = true then some true else if ((PySem.W.clsIn K S).isSome && PySem.W.typeIn K (.ref S) == some (.type "type")) = true then PySem.W.subIn K (.ref D) (.ref S) else none) = some true
  split
  · rfl
  · exact h4
theorem kitF {K : PySem.W.Frag} {S D : Addr} (h0 : D ≠ S) (h2 : PySem.W.isClsIn K S = true) (h3 : PySem.W.typeIn K (.ref S) = some (.type "type")) (h4 : PySem.W.subIn K (.ref D) (.ref S) = some false) : PySem.W.kitOne K (.ref D) (.ref S) = some false := by
  have e2 : ((PySem.W.clsIn K S).isSome && PySem.W.typeIn K (.ref S) == some (.type "type")) = true := by
    have h2' : (PySem.W.clsIn K S).isSome = true := h2
    rw [h2', h3] <;> rfl
  show (if (Value.ref D == Value.ref S) = true then some true else if ((PySem.W.clsIn K S).isSome && PySem.W.typeIn K (.ref S) == some (.type "type")) = true then PySem.W.subIn K (.ref D) (.ref S) else none) = some false
  rw [if_neg (fun h => h0 (Value.ref.inj (beq_iff_eq.mp h))), if_pos e2]
  exact h4
/-! ### _law_refusal -/
def sp_law_refusal_N (K : PySem.W.Frag) (CG X1 X2 : Addr) : Sp := fun vs H Q _ => ∃ (a : Addr) (ws : List V) (m : List (List Int)) (n : Nat), vs = [.ref a] ∧ Gm.Seq K H a ws ∧ Paired (IRow K H) ws m ∧ Gram n m ∧ ∀ H', Same H H' → Q (.str "none") H'
def sp_law_refusal_M (K : PySem.W.Frag) (CG X1 X2 : Addr) : Sp := fun vs H Q _ => ∃ (g : V), vs = [g] ∧ (∀ (H1 : Hp) (E' : XK), Same H H1 → (∀ H', Same H1 H' → E' (.ref X1) none H') → sp_checked_gram_SM K CG X1 [g] H1 (fun _ _ => False) E') ∧ ∀ H', Same H H' → Q (.str "malformed") H'
def sp_law_refusal_R (K : PySem.W.Frag) (CG X1 X2 : Addr) : Sp := fun vs H Q _ => ∃ (g : V) (r : Str), vs = [g] ∧ (∀ (H1 : Hp) (E' : XK), Same H H1 → ERef E' X2 r H1 → sp_checked_gram_SX K CG X2 [g] H1 (fun _ _ => False) E') ∧ ∀ H', Same H H' → Q (.str r) H'
def sp_law_refusal (K : PySem.W.Frag) (CG X1 X2 : Addr) : Sp := fun vs H Q E => sp_law_refusal_N K CG X1 X2 vs H Q E ∨ sp_law_refusal_M K CG X1 X2 vs H Q E ∨ sp_law_refusal_R K CG X1 X2 vs H Q E

end
end K50
namespace K50
open PySem PySem.Spec PyProof.Rows L2 Gm
open C8 (Cal Met Mak pe_c pe_mt pe_mt0 pe_mk)
section
variable {P : Program} {w : World} {K : PySem.W.Frag} {mg : Str → Option Value} {base : Heap}
/-! ### a parting -/
theorem lc2_gen2 {J : It} {n : Nat} {G : Hp → Prop} {Y : Nat → Hp → V → Hp → Prop} (w : Walk J n G Y) {g g1 : TG} {wi1 : TI} {te : TE} {vs vs1 : List Nat} {σ : L2.St} {H1 : Hp} {D : Addr} {Qd : Hp → Prop}
    (Pv : Nat → Hp → Prop) (h0 : Pv 0 (upd H1 D (.lst []))) (hG : ∀ i H, i ≤ n → Pv i H → G H)
    (gm : ∀ x σ1 H (Q Q' : L2.St → Hp → Prop), (∀ σ2 H2, Q σ2 H2 → Q' σ2 H2) → g x σ1 H Q → g x σ1 H Q')
    (gm1 : ∀ x σ1 H (Q Q' : L2.St → Hp → Prop), (∀ σ2 H2, Q σ2 H2 → Q' σ2 H2) → g1 x σ1 H Q → g1 x σ1 H Q')
    (step : ∀ (i : Nat) (x : V) (H H' : Hp) (R : L2.St → It → Hp → Prop), i < n → Pv i H → Y i H x H' →
      (∀ (σ2 : L2.St) (J1 : It) (H4 : Hp) (n1 : Nat) (G1 : Hp → Prop) (Y1 : Nat → Hp → V → Hp → Prop) (Pj : Nat → Hp → Prop), Walk J1 n1 G1 Y1 → Pj 0 H4 → (∀ j H, j ≤ n1 → Pj j H → G1 H) → (∀ H, Pj n1 H → Pv (i + 1) H) →
        (∀ (j : Nat) (y : V) (H5 H5' : Hp) (Ko : VK), j < n1 → Pj j H5 → Y1 j H5 y H5' → (∀ z H7, (∃ acc, H7 D = some (.lst acc) ∧ acc.length < sizeLine ∧ Pj (j + 1) (upd H7 D (.lst (acc ++ [z])))) → Ko z H7) → g1 y (wipe σ2 vs1) H5' fun σ3 H6 => wipe σ3 vs1 = wipe σ2 vs1 ∧ te σ3 H6 Ko) → R σ2 J1 H4) →
      g x (wipe σ vs) H' fun σ2 H2 => wipe σ2 vs = wipe σ vs ∧ wi1 σ2 H2 (R σ2))
    (done : ∀ H, Pv n H → Qd H) :
    ∃ W : Nat → Nat → Hp → Prop, (∃ m, W 0 m (upd H1 D (.lst []))) ∧ ∀ i m H, W i m H →
  (J.stop i H ∧ Qd H) ∨ (J.go i H ∧ ∃ Nx : Hp → Prop, (∀ H', Nx H' → ∃ m', m' < m ∧ W (i + 1) m' H') ∧ ∀ x H', J.yld i H x H' → g x (wipe σ vs) H' fun σ2 H2 => wipe σ2 vs = wipe σ vs ∧ tYes σ2 H2 fun b H3 =>
    if b = true then wi1 σ2 H3 fun J1 H4 => ∃ W1 : Nat → Nat → Hp → Prop, (∃ m, W1 0 m H4) ∧ ∀ j2 k H, W1 j2 k H →
      (J1.stop j2 H ∧ Nx H) ∨ (J1.go j2 H ∧ ∃ Nx1 : Hp → Prop, (∀ H', Nx1 H' → ∃ k', k' < k ∧ W1 (j2 + 1) k' H') ∧ ∀ x H', J1.yld j2 H x H' → g1 x (wipe σ2 vs1) H' fun σ3 H5 => wipe σ3 vs1 = wipe σ2 vs1 ∧ tYes σ3 H5 fun b H6 =>
        if b = true then te σ3 H6 fun y H7 => ∃ acc, H7 D = some (.lst acc) ∧ acc.length < sizeLine ∧ Nx1 (upd H7 D (.lst (acc ++ [y]))) else Nx1 H6)
    else Nx H3) := by
  refine ⟨fun i k H => k = n - i ∧ i ≤ n ∧ Pv i H, ⟨n, by simp, Nat.zero_le _, h0⟩, ?_⟩
  rintro i k H ⟨rfl, hi, pv⟩
  by_cases hlt : i < n
  · refine .inr ⟨w.goes i H hlt (hG i H hi pv), Pv (i + 1), fun H' p' => ⟨n - (i + 1), by omega, rfl, hlt, p'⟩, fun x H' y => ?_⟩
    have yy := w.yields i H x H' hlt (hG i H hi pv) y
    refine gm _ _ _ _ _ (fun σ2 H2 q => ⟨q.1, tyes_of q.2⟩) (step i x H H' (fun σ2 J1 H4 => ∃ W1 : Nat → Nat → Hp → Prop, (∃ m, W1 0 m H4) ∧ ∀ j2 k H, W1 j2 k H →
      (J1.stop j2 H ∧ Pv (i + 1) H) ∨ (J1.go j2 H ∧ ∃ Nx1 : Hp → Prop, (∀ H', Nx1 H' → ∃ k', k' < k ∧ W1 (j2 + 1) k' H') ∧ ∀ x H', J1.yld j2 H x H' → g1 x (wipe σ2 vs1) H' fun σ3 H5 => wipe σ3 vs1 = wipe σ2 vs1 ∧ tYes σ3 H5 fun b H6 =>
        if b = true then te σ3 H6 fun y H7 => ∃ acc, H7 D = some (.lst acc) ∧ acc.length < sizeLine ∧ Nx1 (upd H7 D (.lst (acc ++ [y]))) else Nx1 H6)) hlt pv yy fun σ2 J1 H4 n1 G1 Y1 Pj w1 p0 hG1 pe st => ?_)
    refine ⟨fun j k H => k = n1 - j ∧ j ≤ n1 ∧ Pj j H, ⟨n1, by simp, Nat.zero_le _, p0⟩, ?_⟩
    rintro j k H5 ⟨rfl, hj, pj⟩
    by_cases hlt1 : j < n1
    · refine .inr ⟨w1.goes j H5 hlt1 (hG1 j H5 hj pj), Pj (j + 1), fun H' p' => ⟨n1 - (j + 1), by omega, rfl, hlt1, p'⟩, fun z H6 y1 => ?_⟩
      have yy1 := w1.yields j H5 z H6 hlt1 (hG1 j H5 hj pj) y1
      exact gm1 _ _ _ _ _ (fun σ3 H7 q => ⟨q.1, tyes_of q.2⟩) (st j z H5 H6 _ hlt1 pj yy1 fun _ _ h => h)
    · have e : j = n1 := by omega
      subst e
      exact .inl ⟨w1.stops H5 (hG1 j H5 hj pj), pe H5 pj⟩
  · have e : i = n := by omega
    subst e
    exact .inl ⟨w.stops H (hG i H hi pv), done H pv⟩

end
end K50
namespace K50
open PySem PySem.Spec PyProof.Rows L2 Gm
open C8 (Cal Met Mak pe_c pe_mt pe_mt0 pe_mk)
section
variable {P : Program} {w : World} {K : PySem.W.Frag} {mg : Str → Option Value} {base : Heap}
/-! ### NoText -/
def sp_NoText_init (C : Addr) : Sp := fun vs H Q _ => ∃ (a : Addr) (y : V), vs = [.ref a, y] ∧ H a = some (exo a C none) ∧ ∀ dx, H dx = none → dx ≠ a → Q .non (upd (upd H dx (exd dx [("at", y)])) a (exo a C (some dx)))
theorem ok_NoText_init (T : Top K mg) (hN : base.NoSeer) (hT : P.given.tree = none) : FnOk P w K mg base CX0 1 T.a_NoText_init T.d_NoText_init ["self", "at"] (sp_NoText_init T.X_NoText) := by
  refine T.F_NoText_init.ok sc_NoText_init (fun vs H Q E h => ?_) (fun cdv A outer s H vs Q E hr h => ?_)
  · obtain ⟨a, y, rfl, _⟩ := h
    rfl
  · obtain ⟨a, y, rfl, ha, q⟩ := h
    refine ⟨_, (pss_one (ps_ost (pv 0) (pv 1))), ?_⟩
    exact ⟨_, rfl, _, rfl, a, T.X_NoText, rfl, T.oX_NoText, T.nf_NoText, .inl ⟨ha, fun dx n ne => q dx n ne⟩⟩
theorem hot_NoText_init (T : Top K mg) (hN : base.NoSeer) (hT : P.given.tree = none) : L2H.FnH P w K mg base CX0 1 T.a_NoText_init T.d_NoText_init ["self", "at"] (sp_NoText_init T.X_NoText) := by
  refine okHot T.F_NoText_init sc_NoText_init (fun vs H Q E h => ?_) (fun cdv A outer s H vs Q E p ht hr h => ?_)
  · obtain ⟨a, y, rfl, _⟩ := h
    rfl
  · obtain ⟨a, y, rfl, ha, q⟩ := h
    refine ⟨_, (pss_one (ps_ost (pv 0) (pv 1))), ?_⟩
    exact ⟨_, rfl, _, rfl, a, T.X_NoText, rfl, T.oX_NoText, T.nf_NoText, .inl ⟨ha, fun dx n ne => q dx n ne⟩⟩
/-- what a NoText leaves -/
def ENo (E : XK) (X : Addr) (H : Hp) : Prop := ∀ d H', Same H H' → H' d = some (.xd [("at", .int 0)]) → E (.ref X) (some d) H'
theorem ENo.at {E : XK} {X : Addr} {H H' : Hp} (s : Same H H') (h : ENo E X H) : ENo E X H' := fun d H2 s2 e => h d H2 (s.trans s2) e
theorem made_no {E : XK} {X : Addr} {H : Hp} (h : ENo E X H) (a : Addr) (na : H a = none) : sp_NoText_init X (.ref a :: ([.int 0] ++ [])) (upd H a (exo a X none))
    (fun v H2 => v = .non ∧ ∃ (d : Addr) (fs : List (Str × V)), H2 a = some (exo a X (some d)) ∧ H2 d = some (exd d fs) ∧ H d = none ∧ E (.ref X) (some d) (upd (del H2 a) d (.xd fs))) (fun _ _ _ => False) := by
  refine ⟨a, .int 0, rfl, upd_same, fun dx nd ne => ⟨rfl, dx, [("at", .int 0)], upd_same, ?_, ?_, ?_⟩⟩
  · rw [upd_ne ne, upd_same]
  · rw [upd_ne ne] at nd
    exact nd
  · refine h dx _ (fun b o e => ?_) upd_same
    have hba : b ≠ a := ne_of_none e na
    rw [upd_ne ne] at nd
    have hbd : b ≠ dx := ne_of_none e nd
    rw [upd_ne hbd, del_ne hba, upd_ne hba, upd_ne hbd, upd_ne hba]
    exact e
/-! ### is_number -/
def sp_is_number : Sp := fun vs H Q _ => ∃ (x : Str), vs = [.str x, .int 5] ∧ x.length ≤ 1000 ∧ Q (.bl (isNumB x)) H
theorem pre_le {x y : Str} : (Txt.removeprefix x y).length ≤ x.length := by
  rw [PySem.StrLaws.removeprefix_eq]
  split
  · rw [TL.len_tl, TL.len_tl]
    show ((x.cps.toList.drop _).take _).length ≤ _
    rw [List.length_take, List.length_drop]
    show min _ ((TL.tl x).length - _) ≤ _
    omega
  · exact Nat.le_refl _
theorem ok_is_number (T : Top K mg) (hN : base.NoSeer) (hT : P.given.tree = none) : FnOk P w K mg base CX0 1 T.a_is_number T.d_is_number ["word", "most"] sp_is_number := by
  refine T.F_is_number.ok sc_is_number (fun vs H Q E h => ?_) (fun cdv A outer s H vs Q E hr h => ?_)
  · obtain ⟨x, rfl, _⟩ := h
    rfl
  · obtain ⟨x, rfl, hx, q⟩ := h
    have hl := pre_le (x := x) (y := "-")
    have hz : 1000 ≤ sizeLine := by decide
    refine ⟨_, (pss_cons (ps_set (i := 2) sc_is_number.nd rfl (by first | exact .inl rfl | exact .inr rfl) (pe_m1 PySem.F.slot_str_removeprefix PySem.F.type_str_removeprefix mt_removeprefix (pv 0) pe_str))
      (pss_cons (ps_if (PW.pt (pw_or (pt_cmpR op_gt (pe_callB (call_len_str) (by rfl) T.z_len (by decide +kernel) (pa_cons (pv 2) pa_nil)) (pv 1) (nomark _)) (pw_or (pt_not (pt_val (pe_m0 PySem.F.slot_str_isascii PySem.F.type_str_isascii mt_isascii (pv 2)))) (pw_or1 (pt_not (pt_val (pe_m0 PySem.F.slot_str_isdigit PySem.F.type_str_isdigit mt_isdigit (pv 2))))))))
      (pss_one (ps_ret pe_bl))
      pss_nil)
      (pss_one (ps_ret (pe_or (pe_not (pe_m1 PySem.F.slot_str_startswith PySem.F.type_str_startswith mt_startswith (pv 2) pe_str)) (pe_one (pe_cmpR op_eq (pv 0) pe_str (nomark _)))))))), ?_⟩
    refine ⟨_, rfl, ⟨x, rfl⟩, x, _, rfl, rfl, by omega, ?_⟩
    generalize hd : Txt.removeprefix x ("-" : Str) = d at hl
    refine ⟨_, rfl, d, rfl, by omega, _, rfl, _, _, rfl, rfl, _, rfl, ?_⟩
    have eN : isNumB x = (decide (d.length ≤ 5) && Txt.isascii d && Txt.isdigit d && (!Txt.startswith d ("0" : Str) || decide (x = ("0" : Str)))) := by
      unfold isNumB
      rw [hd]
    by_cases h5 : d.length ≤ 5
    · rw [decide_eq_false (show ¬ (5 : Int) < (d.length : Nat) by omega)]
      refine iteF ?_
      rw [decide_eq_true h5, Bool.true_and] at eN
      refine ⟨_, rfl, ⟨d, rfl⟩, d, rfl, rfl, trivial, _, rfl, ?_⟩
      cases hA : Txt.isascii d with
      | false =>
        rw [hA] at eN
        rw [show isNumB x = false from eN] at q
        exact iteT (iteT q)
      | true =>
        rw [hA, Bool.true_and] at eN
        refine iteF ?_
        refine ⟨_, rfl, ⟨d, rfl⟩, d, rfl, rfl, trivial, _, rfl, ?_⟩
        cases hD : Txt.isdigit d with
        | false =>
          rw [hD] at eN
          rw [show isNumB x = false from eN] at q
          exact iteT q
        | true =>
          rw [hD, Bool.true_and] at eN
          refine iteF ?_
          refine ⟨_, rfl, ⟨d, rfl⟩, d, _, rfl, rfl, _, rfl, _, rfl, ?_⟩
          cases hS : Txt.startswith d ("0" : Str) with
          | false =>
            rw [hS] at eN
            rw [show isNumB x = true from eN] at q
            exact iteT q
          | true =>
            rw [hS] at eN
            refine iteF ?_
            refine ⟨_, rfl, rfl, ?_⟩
            rw [show decide (V.str x = V.str ("0" : Str)) = isNumB x from ?_]
            · exact q
            · rw [eN]
              by_cases h : x = ("0" : Str)
              · rw [h]
                rfl
              · rw [decide_eq_false h, decide_eq_false fun z => h (V.str.inj z)]
                rfl
    · rw [decide_eq_true (show (5 : Int) < (d.length : Nat) by omega)]
      rw [decide_eq_false h5] at eN
      rw [show isNumB x = false from eN] at q
      exact iteT (iteT q)
theorem cal_is_number (T : Top K mg) (hN : base.NoSeer) (hT : P.given.tree = none) : Cal P w K mg base 1 "is_number" sp_is_number [] := ⟨⟨_, _, _, [], ok_is_number T hN hT, T.g_is_number, T.F_is_number.kp, T.b_is_number, .nil⟩⟩
/-! ### texts of matrices -/
theorem good_log {i : Int} (h1 : -400 ≤ i) (h2 : i ≤ 2400) : i.natAbs.log2 < 1920 := by
  have h : i.natAbs < 2 ^ 1920 := Nat.lt_of_lt_of_le (show i.natAbs < 2 ^ 12 by omega) (Nat.pow_le_pow_right (by decide) (by decide))
  by_cases h0 : i.natAbs = 0
  · rw [h0]
    decide
  · exact (Nat.log2_lt h0).mpr h
structure Few (m : List (List Int)) : Prop where
  h3 : m.length ≤ 3
  h0 : 0 < m.length
  row : ∀ r ∈ m, r.length = m.length
  lo : ∀ r ∈ m, ∀ x ∈ r, -400 ≤ x
  hi : ∀ r ∈ m, ∀ x ∈ r, x ≤ 2400
theorem Few.good {m : List (List Int)} (h : Few m) : ∀ r ∈ m, ∀ x ∈ r, GoodW x := fun r hr x hx => good_of (h.lo r hr x hx) (h.hi r hr x hx)
theorem vals_list {α : Type} {f : α → V} : ∀ {xs : List α} {n : Nat} {l : List V}, xs.length = n → Paired (fun k v => ∃ z, xs[k]? = some z ∧ v = f z) (List.range n) l → l = xs.map f := fun {xs n l} h hp => by
  apply List.ext_getElem?
  intro i
  have hl := Paired.length hp
  rw [List.length_range] at hl
  rw [List.getElem?_map]
  by_cases hi : i < n
  · obtain ⟨v, ev, z, ez, rfl⟩ := Paired.getR hp (List.getElem?_range hi)
    rw [ev, ez]
    rfl
  · rw [List.getElem?_eq_none (by omega), List.getElem?_eq_none (by omega)]
    rfl
def sp_law_text : Sp := fun vs H Q _ => ∃ (v : V) (m : List (List Int)), vs = [v] ∧ LRows H v m ∧ Few m ∧ ∀ H', Same H H' → Q (.str (textS m)) H'

end
end K50
namespace K50
open PySem PySem.Spec PyProof.Rows L2 Gm
open C8 (Cal Met Mak pe_c pe_mt pe_mt0 pe_mk)
section
variable {P : Program} {w : World} {K : PySem.W.Frag} {mg : Str → Option Value} {base : Heap}
theorem fn_weak {P : Program} {w : World} {K : PySem.W.Frag} {mg : Str → Option Value} {base : Heap} {CX : CXT} {k : Nat} {f : Addr} {fd : FuncData} {ps : List Str} {sp : Sp} (F : FnOk P w K mg base CX0 k f fd ps sp) : FnOk P w K mg base CX k f fd ps sp := by
  refine ⟨F.len, fun A outer s H args us vs Q E hr e0 hb r h => codeAny_mono (F.run A outer s H args us vs Q E hr e0 hb r h) fun r s' q => ?_⟩
  cases r with
  | error e => exact (show False from q).elim
  | ok fl => cases fl <;> exact q
def sp_Lattice_init_ALL (K : PySem.W.Frag) (CG CL XM XR : Addr) : Sp := fun vs H Q E => sp_Lattice_init_S K CG CL vs H Q E ∨ sp_Lattice_init_SM K CG XM vs H Q E ∨ sp_Lattice_init_SR K CG XR vs H Q E
theorem ok_Lattice_init_ALL (T : Top K mg) (hN : base.NoSeer) (hT : P.given.tree = none) : FnOk P w K mg base (L2N.CX P w) 45 T.a_Lattice_init T.d_Lattice_init ["self", "gram"] (sp_Lattice_init_ALL K T.C_Grid T.C_Lattice T.X_Malformed T.X_Refused) := fn_or (fn_weak (ok_Lattice_init_S T hN hT)) (fn_or (ok_Lattice_init_SM T hN hT) (ok_Lattice_init_SR T hN hT))
/-! ### str(lattice) -/
def sp_Lattice_str (K : PySem.W.Frag) (CG CL : Addr) : Sp := fun vs H Q _ => ∃ (v : V) (m : List (List Int)) (n : Nat), vs = [v] ∧ IsLat K CG CL H v m n ∧ Few m ∧ ∀ H', Same H H' → Q (.str (textS m)) H'
theorem ok_Lattice_str (T : Top K mg) (hN : base.NoSeer) (hT : P.given.tree = none) : FnOk P w K mg base CX0 1 T.a_Lattice_str T.d_Lattice_str ["self"] (sp_Lattice_str K T.C_Grid T.C_Lattice) := by
  refine T.F_Lattice_str.ok sc_Lattice_str (fun vs H Q E h => ?_) (fun cdv A outer s H vs Q E hr h => ?_)
  · obtain ⟨v, m, n, rfl, _⟩ := h
    rfl
  · obtain ⟨v, m, n, rfl, L, few, q⟩ := h
    obtain ⟨p, dx, g, rfl, ho, Gg⟩ := L.obj
    obtain ⟨⟨pg, dg, tg, rfl, hog, htg⟩, _⟩ := id Gg
    obtain ⟨qt, wt, rfl, hq, hp⟩ := id htg
    have lw := Paired.length hp
    have h3 := few.h3
    refine ⟨_, (pss_one (ps_ret (pe_joinK K rfl pe_str (pe_lc (own := [("row", 1)]) (g := (gName 1)) (by rfl) sc_Lattice_str.nd (piS K rfl (fldK K rfl (fldK K rfl (pv 0) rfl) rfl)) ((by show BlkOk ["self", "row", "item"] (defScope s_Lattice_str) _ _; exact blkOk_by (by decide +kernel))) (fun _ _ _ _ _ => (pg_name (i := 1) sc_Lattice_str.nd rfl (by first | exact .inl rfl | exact .inr rfl))) (fun _ _ _ _ _ => pts_nil) (fun _ _ _ _ _ => (pe_joinK K rfl pe_str (pe_lc (own := [("item", 2)]) (g := (gName 2)) (by rfl) sc_Lattice_str.nd (piS K rfl (pv 1)) ((by show BlkOk ["self", "row", "item"] (relS _ (defScope s_Lattice_str)) _ _; exact blkOk_by (by decide +kernel))) (fun _ _ _ _ _ => (pg_name (i := 2) sc_Lattice_str.nd rfl (by first | exact .inl rfl | exact .inr rfl))) (fun _ _ _ _ _ => pts_nil) (fun _ _ _ _ _ => (pe_callTy call_str_int (by rfl) T.z_str (by decide +kernel) (pa_cons (pv 2) pa_nil)))))))))), ?_⟩
    refine ⟨⟨_, rfl⟩, _, rfl, p, T.C_Lattice, dx, _, _, rfl, ho, T.cl_Lattice, T.n_gram, fldG_gram _, pg, T.C_Grid, dg, _, _, rfl, hog, T.cl_Grid, T.n_rows, flds_rows _ _, qt, wt, rfl, .inr hq, fun J G W hG D hD => ?_⟩
    refine lc_all W hD (by omega) (fun H1 s1 => hG H1 fun b _ o => s1 b o) (fun i v _ => ∃ r, m[i]? = some r ∧ v = .str (Gm.rowS r)) (fun _ _ _ _ _ _ _ h => h) ?_ gm_name ?_
    · rintro i x H1 H1' acc Ko hi s1 eD ⟨rfl, ex⟩ kk
      obtain ⟨r, er, c, rfl, hc⟩ := Paired.getR hp ex
      have hrm := List.mem_of_getElem? er
      have lr := few.row r hrm
      refine ⟨rfl, ?_⟩
      refine ⟨⟨_, rfl⟩, _, rfl, c, _, rfl, .inr (Same.seqT s1 hc), fun J2 G2 W2 hG2 D2 hD2 => ?_⟩
      refine lc_all W2 hD2 (by rw [List.length_map]; omega) (fun H2 s2 => hG2 H2 fun b _ o => s2 b o) (fun i v _ => ∃ z, r[i]? = some z ∧ v = .str (numS z)) (fun _ _ _ _ _ _ _ h => h) ?_ gm_name ?_
      · rintro i x H2 H2' acc2 Ko2 hi2 s2 eD2 ⟨rfl, ex2⟩ k2
        obtain ⟨z, ez, rfl⟩ := ints_get ex2
        have hz := List.mem_of_getElem? ez
        refine ⟨rfl, ?_⟩
        refine ⟨_, rfl, z, rfl, good_log (few.lo r hrm z hz) (few.hi r hrm z hz), ?_⟩
        exact k2 _ _ (Same.refl _) ⟨z, ez, rfl⟩
      intro H2 l2 s2 eD2 hpl2
      have el2 : l2 = (r.map numS).map V.str := by rw [List.map_map]; exact vals_list (f := fun z => .str (numS z)) (by rw [List.length_map]) hpl2
      subst el2
      refine ⟨_, D2, r.map numS, rfl, rfl, .inl (.inl eD2), ?_, ?_⟩
      · have := sum_len (b := 5) (ys := r.map numS) fun y hy => by
          obtain ⟨z, hz, rfl⟩ := List.mem_map.mp hy
          exact (few.good r hrm z hz).len
        have e1 : (" " : Str).length = 1 := rfl
        rw [List.length_map] at this ⊢
        rw [e1]
        omega
      · exact kk _ _ s2 ⟨r, er, rfl⟩
    intro H1 l1 s1 eD hpl
    have el1 : l1 = (m.map Gm.rowS).map V.str := by rw [List.map_map]; exact vals_list (f := fun r => .str (Gm.rowS r)) lw.symm hpl
    subst el1
    refine ⟨_, D, m.map Gm.rowS, rfl, rfl, .inl (.inl eD), ?_, ?_⟩
    · have := sum_len (b := 18) (ys := m.map Gm.rowS) fun y hy => by
        obtain ⟨r, hr, rfl⟩ := List.mem_map.mp hy
        exact row_len (few.good r hr) (by rw [few.row r hr]; exact h3)
      have e1 : ("; " : Str).length = 2 := rfl
      rw [List.length_map] at this ⊢
      rw [e1]
      omega
    · exact q _ s1
/-! ### read_lattice -/
def NoStr (K : PySem.W.Frag) (H : Hp) (v : V) : Prop := v = .non ∨ (∃ i, v = .int i) ∨ ∃ a xs, v = .ref a ∧ SqT K H a xs
/-- the numbers of a text -/
def Nums (s : Str) (m : List (List Int)) : Prop := (Gm.wordsOf s).map (fun r => r.map intText?) = m.map fun r => r.map some
def sp_read_lattice (K : PySem.W.Frag) (CG CL XM XR X : Addr) : Sp := fun vs H Q E => ∃ v, vs = [v] ∧ ((NoStr K H v ∧ ENo E X H) ∨ ∃ s : Str, v = .str s ∧ s.length ≤ 200 ∧ ((okT s = false ∧ ENo E X H) ∨ (okT s = true ∧ ∃ m : List (List Int), Nums s m ∧
  ((∃ n, Gram n m ∧ ∀ x H', Same H H' → IsLat K CG CL H' (.ref x) m n → Q (.ref x) H') ∨
   ((∀ (a : Addr) (ws : List V) (H1 : Hp) (E1 : XK), Gm.Seq K H1 a ws → Paired (IRow K H1) ws m → (∀ H', Same H1 H' → E1 (.ref XM) none H') → (∀ d H', Same H1 H' → E1 (.ref XR) d H') → sp_checked_gram_SM K CG XM [.ref a] H1 (fun _ _ => False) E1 ∨ sp_checked_gram_SX K CG XR [.ref a] H1 (fun _ _ => False) E1) ∧ ENo E X H)))))
theorem ok_read_lattice (T : Top K mg) (hN : base.NoSeer) (hT : P.given.tree = none) : FnOk P w K mg base (L2.CX P w) 47 T.a_read_lattice T.d_read_lattice ["text"] (sp_read_lattice K T.C_Grid T.C_Lattice T.X_Malformed T.X_Refused T.X_NoText) := by
  refine T.F_read_lattice.okX sc_read_lattice (fun vs H Q E h => ?_) (fun cdv A outer s H vs Q E hr h => ?_)
  · obtain ⟨v, rfl, _⟩ := h
    rfl
  · obtain ⟨v, rfl, h⟩ := h
    refine ⟨_, (pss_cons (ps_if (pt_not (pt_val (pe_callB (isiK K rfl) (by rfl) T.z_isinstance (by decide +kernel) (pa_cons (pv 0) (pa_cons (pe_bltn (v := .ty "str") (by rfl) T.z_str (by decide +kernel) rfl) pa_nil)))))
      (pss_one (ps_raise rfl (takes_of rfl rfl rfl rfl) (pmk_oex T.oX_NoText T.nI_NoText T.jI_NoText (ok_NoText_init T hN hT) (hr.mono (by decide)) T.b_NoText_init .nil pass0 (by rfl) T.gX_NoText (pa_cons pe_int pa_nil))))
      pss_nil)
      (pss_cons (ps_setLc (i := 1) (own := [("row", 3)]) (g := (gName 3)) (by rfl) sc_read_lattice.nd rfl rfl (sw_true rfl rfl rfl (by decide +kernel)) (piS K rfl (pe_split (pv 0) pe_str)) ((by show BlkOk ["text", "rows", "numbers", "row", "word"] (defScope s_read_lattice) _ _; exact blkOk_by (by decide +kernel))) (fun _ _ _ _ _ => (pg_name (i := 3) sc_read_lattice.nd rfl (by first | exact .inl rfl | exact .inr rfl))) (fun _ _ _ _ _ => pts_nil) (fun _ _ _ _ _ => (pe_split (pv 3) pe_str)))
      (pss_cons (ps_if (pt_not (pt_val (pe_callB (allK K rfl rfl) (by rfl) T.z_all (by decide +kernel) (pa_cons (pe_lc2 (own := [("row", 3), ("word", 4)]) (vs1 := [4]) (g := (gName 3)) (g1 := (gName 4)) (by rfl) sc_read_lattice.nd (piS K rfl (pv 1)) (by show BlkOk ["text", "rows", "numbers", "row", "word"] (defScope s_read_lattice) _ _; exact blkOk_by (by decide +kernel)) (by decide) (fun _ _ _ _ _ => (pg_name (i := 3) sc_read_lattice.nd rfl (by first | exact .inl rfl | exact .inr rfl))) (fun _ _ _ _ _ => pts_nil) (fun _ _ _ _ _ => (piS K rfl (pv 3))) (fun _ _ _ _ _ => (pg_name (i := 4) sc_read_lattice.nd rfl (by first | exact .inl rfl | exact .inr rfl))) (fun _ _ _ _ _ => pts_nil) (fun _ _ _ _ _ => (pe_c (cal_is_number T hN hT) hr (by decide) (by rfl) (pa_cons (pv 4) (pa_cons (pe_glob (v := V.int 5) (by rfl) T.g_MOST_DIGITS_lattice ⟨_, rfl⟩) pa_nil))))) pa_nil))))
      (pss_one (ps_raise rfl (takes_of rfl rfl rfl rfl) (pmk_oex T.oX_NoText T.nI_NoText T.jI_NoText (ok_NoText_init T hN hT) (hr.mono (by decide)) T.b_NoText_init .nil pass0 (by rfl) T.gX_NoText (pa_cons pe_int pa_nil))))
      pss_nil)
      (pss_cons (ps_setLc (i := 2) (own := [("row", 3)]) (g := (gName 3)) (by rfl) sc_read_lattice.nd rfl rfl (sw_true rfl rfl rfl (by decide +kernel)) (piS K rfl (pv 1)) ((by show BlkOk ["text", "rows", "numbers", "row", "word"] (defScope s_read_lattice) _ _; exact blkOk_by (by decide +kernel))) (fun _ _ _ _ _ => (pg_name (i := 3) sc_read_lattice.nd rfl (by first | exact .inl rfl | exact .inr rfl))) (fun _ _ _ _ _ => pts_nil) (fun _ _ _ _ _ => (pe_lc (own := [("word", 4)]) (g := (gName 4)) (by rfl) sc_read_lattice.nd (piS K rfl (pv 3)) ((by show BlkOk ["text", "rows", "numbers", "row", "word"] (relS _ (defScope s_read_lattice)) _ _; exact blkOk_by (by decide +kernel))) (fun _ _ _ _ _ => (pg_name (i := 4) sc_read_lattice.nd rfl (by first | exact .inl rfl | exact .inr rfl))) (fun _ _ _ _ _ => pts_nil) (fun _ _ _ _ _ => (pe_callTy call_int_str (by rfl) T.z_int (by decide +kernel) (pa_cons (pv 4) pa_nil))))))
      (pss_one (ps_try_pairX rfl rfl ⟨rfl, by decide, Or.inl T.gX_Malformed⟩ ⟨rfl, by decide, Or.inl T.gX_Refused⟩ (L2H.passesAt_of rfl) (takes_of rfl rfl rfl rfl) (fun W pn xe tk _ => (pss_one (ps_ret (pe_makeS (E := WE W) T.mk_Lattice (ok_Lattice_init_ALL T hN hT) (hr.mono (by decide)) (by rfl) T.g_Lattice T.b_Lattice_init .nil (fun σ => L2N.passAt tk σ) (pa_cons (pv 2) pa_nil))))) (fun a oe cls d pn tk hot => (pss_one (L2H.ps_raiseHN hot tk (L2H.pmk5_oexH T.oX_NoText T.nI_NoText T.jI_NoText (hot_NoText_init T hN hT) (L2H.roomH_mark (hr.mono (by decide)) _) hot T.b_NoText_init pass0 (by rfl) T.gX_NoText (pa_cons pe_int pa_nil))))))))))), ?_⟩
    have hz : 100000 ≤ sizeLine := by decide
    rcases h with ⟨hs, en⟩ | ⟨s0, rfl, hl, h⟩
    · have ty : ∃ n, TyX K H v (.type n) ∧ PySem.W.kitOne K (.type n) (.type "str") = some false := by
        rcases hs with rfl | ⟨i, rfl⟩ | ⟨a, xs, rfl, hx⟩
        · exact ⟨"NoneType", .base .non, kit_ty (by decide +kernel)⟩
        · exact ⟨"int", .base (.int i), kit_ty (by decide +kernel)⟩
        · exact ⟨"tuple", row_ty hx, kit_ty (by decide +kernel)⟩
      obtain ⟨n, ty, kit⟩ := ty
      refine ⟨_, rfl, v, .ty "str", _, _, false, rfl, .ty "str", ty, kit, false, rfl, ?_⟩
      refine iteT ?_
      exact ⟨by decide, fun a na => made_no en a na⟩
    refine ⟨_, rfl, .str s0, .ty "str", _, _, true, rfl, .ty "str", .base (.str s0), kit_ty (by decide +kernel), true, rfl, ?_⟩
    refine iteF ?_
    -- the rows
    obtain ⟨R, hR⟩ : ∃ R, Txt.split s0 ("; " : Str) = R := ⟨_, rfl⟩
    have hRl := split_len (x := s0) sp2.1 sp2.2
    rw [hR] at hRl
    obtain ⟨W, hW⟩ : ∃ W, Gm.wordsOf s0 = W := ⟨_, rfl⟩
    have hWR : W = R.map fun r => Txt.split r (" " : Str) := by rw [← hW, ← hR]; rfl
    have lW : W.length = R.length := by rw [hWR, List.length_map]
    have wlen : ∀ ws ∈ W, ws.length ≤ 201 ∧ ∀ w ∈ ws, w.length ≤ 200 := fun ws hws => by
      rw [hWR] at hws
      obtain ⟨r, hr, rfl⟩ := List.mem_map.mp hws
      have h1 := hRl.2 r hr
      have h2 := split_len (x := r) sp1.1 sp1.2
      exact ⟨by omega, fun w hw => by have := h2.2 w hw; omega⟩
    refine ⟨_, rfl, ⟨s0, rfl⟩, s0, _, rfl, rfl, rfl, by omega, fun p1 np1 => ?_⟩
    rw [hR]
    have s1 := same_upd (o := .lst (R.map V.str)) np1
    have e1 : (upd H p1 (.lst (R.map V.str))) p1 = some (.lst (R.map V.str)) := upd_same
    generalize upd H p1 (.lst (R.map V.str)) = H1 at s1 e1 ⊢
    refine ⟨p1, _, rfl, .inl (.inl (.inl e1)), fun J G Wk hG D hD => ?_⟩
    refine lc_all Wk hD (by rw [List.length_map]; omega) (fun H2 s2 => hG H2 fun b _ o => s2 b o) (fun i v H5 => ∃ ws, W[i]? = some ws ∧ ∃ q, v = .ref q ∧ q ≠ D ∧ H5 q = some (.lst (ws.map V.str))) (fun j v H7 H8 acc e o ⟨r, er, q, ev, ne, eh⟩ => ⟨r, er, q, ev, ne, o _ _ ne eh⟩) ?_ gm_name ?_
    · rintro i x H2 H2' acc Ko hi s2 eD ⟨rfl, ex⟩ kk
      rw [List.getElem?_map] at ex
      obtain ⟨r, er, rfl⟩ := Option.map_eq_some_iff.mp ex
      have h1 := hRl.2 r (List.mem_of_getElem? er)
      refine ⟨rfl, ?_⟩
      refine ⟨_, rfl, ⟨r, rfl⟩, r, _, rfl, rfl, rfl, by omega, fun q nq => ?_⟩
      exact kk _ _ (same_upd nq) ⟨Txt.split r (" " : Str), by rw [hWR, List.getElem?_map, er]; rfl, q, rfl, fun e => by rw [e, eD] at nq; (cases nq), upd_same⟩
    intro H2 l2 s2 eD hpl
    have hp2 := paired_at (F := fun v (ws : List Str) => ∃ q, v = V.ref q ∧ q ≠ D ∧ H2 q = some (.lst (ws.map V.str))) (m := W) (by rw [List.length_map]; exact lW.symm) hpl
    have lw2 := Paired.length hp2
    -- the words
    refine ⟨_, rfl, D, l2, rfl, .inl (.inl (.inl eD)), fun J2 G2 W2 hG2 D2 hD2 => ?_⟩
    have flen : ∀ i, ((W.take i).flatten).length ≤ 201 * 201 := fun i => by
      have key : ∀ (l : List (List Str)), (∀ ws ∈ l, ws.length ≤ 201) → l.flatten.length ≤ l.length * 201 := by
        intro l
        induction l with
        | nil => intro _; exact Nat.zero_le _
        | cons a l ih =>
          intro h
          have h1 := h a (List.mem_cons_self ..)
          have h2 := ih fun x hx => h x (List.mem_cons_of_mem _ hx)
          rw [List.flatten_cons, List.length_append, List.length_cons, Nat.succ_mul]
          omega
      have h1 := key (W.take i) fun ws hws => (wlen ws (List.mem_of_mem_take hws)).1
      have h2 : (W.take i).length ≤ 201 := by rw [List.length_take]; omega
      have := Nat.mul_le_mul_right 201 h2
      omega
    refine lc2_gen2 W2 (fun i H3 => Same H2 H3 ∧ H3 D2 = some (.lst (((W.take i).flatten).map fun w => V.bl (isNumB w)))) ⟨same_upd hD2, by rw [List.take_zero]; exact upd_same⟩ (fun i H3 _ ⟨s3, _⟩ => hG2 H3 fun b _ o => s3 b o) gm_name gm_name ?_ ?_
    · rintro i x H3 H3' Rk hi ⟨s3, e3⟩ ⟨rfl, ex⟩ hRk
      obtain ⟨ws, ews, q, rfl, _, hq⟩ := Paired.getR hp2 ex
      have hws := wlen ws (List.mem_of_getElem? ews)
      have etk : (W.take (i + 1)).flatten = (W.take i).flatten ++ ws := by rw [List.take_add_one, ews, List.flatten_append]; simp
      refine ⟨rfl, ?_⟩
      refine ⟨_, rfl, q, _, rfl, .inl (.inl (.inl (s3 _ _ hq))), fun J3 G3 W3 hG3 => ?_⟩
      refine hRk _ _ _ _ _ _ (fun j H4 => Same H2 H4 ∧ H4 D2 = some (.lst (((W.take i).flatten ++ ws.take j).map fun w => V.bl (isNumB w)))) W3 ⟨s3, by rw [List.take_zero, List.append_nil]; exact e3⟩ (fun j H4 _ ⟨s4, _⟩ => hG3 H4 fun b hb o e => ?_) (fun H4 ⟨s4, e4⟩ => ⟨s4, ?_⟩) ?_
      · have hbq : b = q := by simpa using hb
        subst hbq
        rw [s3 _ _ hq] at e
        rw [← e]
        exact s4 _ _ hq
      · rw [show ws.take (ws.map V.str).length = ws from List.take_of_length_le (by rw [List.length_map]; exact Nat.le_refl _)] at e4
        rw [etk]
        exact e4
      · rintro j y H5 H5' Ko hj ⟨s5, e5⟩ ⟨rfl, ey⟩ kk
        rw [List.getElem?_map] at ey
        obtain ⟨w, ew, rfl⟩ := Option.map_eq_some_iff.mp ey
        refine ⟨rfl, ?_⟩
        have h1 := hws.2 w (List.mem_of_getElem? ew)
        have h2 := flen i
        have h3 : (ws.take j).length ≤ 201 := by rw [List.length_take]; omega
        refine ⟨_, rfl, w, rfl, by omega, kk _ _ ⟨_, e5, ?_, fun b o e => ?_, ?_⟩⟩
        · rw [List.length_map, List.length_append]
          omega
        · rw [upd_ne (ne_of_none e hD2)]
          exact s5 _ _ e
        · have e : (W.take i).flatten ++ ws.take (j + 1) = ((W.take i).flatten ++ ws.take j) ++ [w] := by
            rw [List.take_add_one, ew, List.append_assoc]
            rfl
          rw [upd_same, e, List.map_append (l₁ := (W.take i).flatten ++ ws.take j) (l₂ := [w])]
          rfl
    · rintro H3 ⟨s3, e3⟩
      rw [List.take_of_length_le (by omega)] at e3
      refine ⟨D2, W.flatten.map isNumB, rfl, .inl (.inl (by rw [List.map_map]; exact e3)), ?_⟩
      have eok : (W.flatten.map isNumB).all id = okT s0 := by
        unfold okT
        rw [hW, List.all_map, List.all_flatten]
        rfl
      rw [eok]
      refine ⟨_, rfl, ?_⟩
      have s13 := s1.trans (s2.trans s3)
      rcases h with ⟨hf, en⟩ | ⟨ht, m, nums, h⟩
      · rw [hf]
        refine iteT ?_
        exact ⟨by decide, fun a na => made_no (en.at s13) a na⟩
      rw [ht]
      refine iteF ?_
      -- the numbers
      have hwm : ∀ {i : Nat} {ws : List Str}, W[i]? = some ws → ∃ r, m[i]? = some r ∧ ws.map intText? = r.map some := fun {i ws} e => by
        have z := congrArg (fun l => l[i]?) nums
        simp only [List.getElem?_map] at z
        rw [hW, e] at z
        cases hm : m[i]? with
        | none => rw [hm] at z; cases z
        | some r => rw [hm] at z; exact ⟨r, rfl, Option.some.inj z⟩
      have lm : m.length = W.length := by
        have z := congrArg List.length nums
        rw [List.length_map, List.length_map, hW] at z
        exact z.symm
      have num6 : ∀ ws ∈ W, ∀ w ∈ ws, w.length ≤ 6 := fun ws hws w hw => by
        unfold okT at ht
        rw [hW, List.all_eq_true] at ht
        have z := ht ws hws
        rw [List.all_eq_true] at z
        exact num_len (z w hw)
      have eD3 := s3 _ _ eD
      have hp3 : Paired (fun v (ws : List Str) => ∃ q, v = V.ref q ∧ H3 q = some (.lst (ws.map V.str))) l2 W := L2.Paired.mapP hp2 fun _ _ ⟨q, e, _, x⟩ => ⟨q, e, s3 _ _ x⟩
      refine ⟨_, rfl, D, l2, rfl, .inl (.inl (.inl eD3)), fun J4 G4 W4 hG4 D4 hD4 => ?_⟩
      refine lc_all W4 hD4 (by omega) (fun H4 s4 => hG4 H4 fun b _ o => s4 b o) (fun i v H5 => ∃ r, m[i]? = some r ∧ ∃ q, v = .ref q ∧ q ≠ D4 ∧ H5 q = some (.lst (r.map V.int))) (fun j v H7 H8 acc e o ⟨r, er, q, ev, ne, eh⟩ => ⟨r, er, q, ev, ne, o _ _ ne eh⟩) ?_ gm_name ?_
      · rintro i x H4 H4' acc Ko hi s4 eD4 ⟨rfl, ex⟩ kk
        obtain ⟨ws, ews, q, rfl, hq⟩ := Paired.getR hp3 ex
        obtain ⟨r, er, hr⟩ := hwm ews
        have lr : r.length = ws.length := by
          have z := congrArg List.length hr
          rw [List.length_map, List.length_map] at z
          exact z.symm
        have hwsl := (wlen ws (List.mem_of_getElem? ews)).1
        refine ⟨rfl, ?_⟩
        refine ⟨_, rfl, q, _, rfl, .inl (.inl (.inl (s4 _ _ hq))), fun J5 G5 W5 hG5 D5 hD5 => ?_⟩
        refine lc_all W5 hD5 (by rw [List.length_map]; omega) (fun H5 s5 => hG5 H5 fun b _ o => s5 b o) (fun i v _ => ∃ z, r[i]? = some z ∧ v = .int z) (fun _ _ _ _ _ _ _ h => h) ?_ gm_name ?_
        · rintro k y H5 H5' acc2 Ko2 hk s5 eD5 ⟨rfl, ey⟩ k2
          rw [List.getElem?_map] at ey
          obtain ⟨w, ew, rfl⟩ := Option.map_eq_some_iff.mp ey
          have z := congrArg (fun l => l[k]?) hr
          simp only [List.getElem?_map] at z
          rw [ew] at z
          have h6 := num6 ws (List.mem_of_getElem? ews) w (List.mem_of_getElem? ew)
          cases hz : r[k]? with
          | none => rw [hz] at z; cases z
          | some c =>
            rw [hz] at z
            refine ⟨rfl, ?_⟩
            exact ⟨_, rfl, w, c, rfl, Option.some.inj z, by omega, k2 _ _ (Same.refl _) ⟨c, hz, rfl⟩⟩
        intro H5 l5 s5 eD5 hpl5
        have el := ints_list (by rw [List.length_map]; exact lr.symm) hpl5
        subst el
        exact kk _ _ s5 ⟨r, er, D5, rfl, fun e => by rw [e, eD4] at hD5; (cases hD5), eD5⟩
      intro H4 l4 s4 eD4 hpl4
      have hp4 := paired_at (F := fun v (r : List Int) => ∃ q, v = V.ref q ∧ q ≠ D4 ∧ H4 q = some (.lst (r.map V.int))) (m := m) (by omega) hpl4
      have hpI : Paired (IRow K H4) l4 m := L2.Paired.mapP hp4 fun _ _ ⟨q, e, _, x⟩ => ⟨q, e, .inl (.inl (.inl x))⟩
      have sq4 : Gm.Seq K H4 D4 l4 := .inl (.inl (.inl eD4))
      have s14 := s13.trans s4
      refine ⟨_, rfl, ?_⟩
      intro x7 xd7 nx7 nxd7 nex7
      have s0 : Same H4 (upd (upd H4 xd7 (.own x7)) x7 (.ins T.C_Lattice xd7 [])) := fun b o e => by
        rw [upd_ne (ne_of_none e nx7), upd_ne (ne_of_none e nxd7)]
        exact e
      rcases h with ⟨n, gm, q⟩ | ⟨bad, en⟩
      · refine .inl ⟨x7, xd7, D4, l4, m, n, rfl, upd_same, sq4.same s0, L2.Paired.mapP hpI fun _ _ => IRow.same s0, gm, fun g H' o ho Gg => ⟨rfl, ?_⟩⟩
        exact q _ _ (s14.trans fun b u e => o _ _ (ne_of_none e nx7) (s0 _ _ e)) ⟨⟨x7, xd7, g, rfl, ho, Gg⟩, gm⟩
      · have exR : PySem.W.exmOne K (.ref T.X_Refused) (.ref T.X_Refused) = some true := exm1 T.bX_Refused T.iX_Refused T.tX_Refused T.sX_Refused
        have exM : PySem.W.exmOne K (.ref T.X_Malformed) (.ref T.X_Malformed) = some true := exm1 T.bX_Malformed T.iX_Malformed T.tX_Malformed T.sX_Malformed
        have exMR : PySem.W.exmOne K (.ref T.X_Malformed) (.ref T.X_Refused) = some false := exmR T.bX_Refused T.iX_Refused T.tX_Refused T.sub_Malformed_Refused
        have exRM : PySem.W.exmOne K (.ref T.X_Refused) (.ref T.X_Malformed) = some false := exmR T.bX_Malformed T.iX_Malformed T.tX_Malformed T.sub_Refused_Malformed
        have two : ∀ {c a b : Value} {u v : Bool}, PySem.W.exmOne K c a = some u → PySem.W.exmOne K c b = some v → (u || v) = true → PySem.W.exmAny K c [a, b] = some true := fun {c a b u v} h1 h2 h3 => by
          unfold PySem.W.exmAny PySem.W.exmAny PySem.W.exmAny
          rw [h1, h2]
          show some (u || (v || false)) = some true
          rw [Bool.or_false, h3]
        have key : ∀ (Q1 : VK) (E1 : XK), (∀ H', Same (upd (upd H4 xd7 (.own x7)) x7 (.ins T.C_Lattice xd7 [])) H' → E1 (.ref T.X_Malformed) none H') → (∀ d H', Same (upd (upd H4 xd7 (.own x7)) x7 (.ins T.C_Lattice xd7 [])) H' → E1 (.ref T.X_Refused) d H') → sp_Lattice_init_ALL K T.C_Grid T.C_Lattice T.X_Malformed T.X_Refused [.ref x7, .ref D4] (upd (upd H4 xd7 (.own x7)) x7 (.ins T.C_Lattice xd7 [])) Q1 E1 := fun Q1 E1 hM hR => by
          rcases bad D4 l4 _ E1 (sq4.same s0) (L2.Paired.mapP hpI fun _ _ => IRow.same s0) hM hR with h | h
          · exact .inr (.inl ⟨x7, .ref D4, rfl, h⟩)
          · exact .inr (.inr ⟨x7, .ref D4, rfl, h⟩)
        refine key _ _ (fun H' s' => ⟨two exM exMR rfl, fun a na => ⟨by decide, fun a na => made_no (en.at (s14.trans (s0.trans s'))) a na⟩⟩) (fun d H' s' => ⟨two exRM exR rfl, fun a na => ⟨by decide, fun a na => made_no (en.at (s14.trans (s0.trans s'))) a na⟩⟩)

end
end K50
namespace K50
open PySem PySem.Spec PyProof.Rows L2 Gm
open C8 (Cal Met Mak pe_c pe_mt pe_mt0 pe_mk)
section
variable {P : Program} {w : World} {K : PySem.W.Frag} {mg : Str → Option Value} {base : Heap}
theorem op_notInK {X : Cx} (K : PySem.W.Frag) (hK : X.K = K) : OpR X (compareOp .NotIn) (rIn K true) := by
  subst hK
  exact op_notIn_seq
/-! ### words and names -/
def isWordB (w : Str) : Bool := decide (1 ≤ w.length) && (decide (w.length ≤ 8) && (Txt.isascii w && (Txt.isalpha w && Txt.islower w)))
def comL : List Str := ["form", "alike", "group", "short", "nearest", "parts", "dual", "below", "above"]
def isNameB (w : Str) : Bool := isWordB w && (!inV (.str w) (comL.map V.str) && !decide (w = ("let" : Str)))
def sp_is_word (K : PySem.W.Frag) : Sp := fun vs H Q _ => ∃ v, vs = [v] ∧ ((NoStr K H v ∧ Q (.bl false) H) ∨ ∃ s : Str, v = .str s ∧ s.length ≤ 3000 ∧ Q (.bl (isWordB s)) H)
theorem nostr_ty {K : PySem.W.Frag} {H : Hp} {v : V} (hs : NoStr K H v) : ∃ n, TyX K H v (.type n) ∧ PySem.W.kitOne K (.type n) (.type "str") = some false := by
  rcases hs with rfl | ⟨i, rfl⟩ | ⟨a, xs, rfl, hx⟩
  · exact ⟨"NoneType", .base .non, kit_ty (by decide +kernel)⟩
  · exact ⟨"int", .base (.int i), kit_ty (by decide +kernel)⟩
  · exact ⟨"tuple", row_ty hx, kit_ty (by decide +kernel)⟩
theorem ok_is_word (T : Top K mg) (hN : base.NoSeer) (hT : P.given.tree = none) : FnOk P w K mg base CX0 1 T.a_is_word T.d_is_word ["value"] (sp_is_word K) := by
  refine T.F_is_word.ok sc_is_word (fun vs H Q E h => ?_) (fun cdv A outer s H vs Q E hr h => ?_)
  · obtain ⟨v, rfl, _⟩ := h
    rfl
  · obtain ⟨v, rfl, h⟩ := h
    have hz : 100000 ≤ sizeLine := by decide
    refine ⟨_, (pss_cons (ps_if (PW.pt (pw_or (pt_not (pt_val (pe_callB (isiK K rfl) (by rfl) T.z_isinstance (by decide +kernel) (pa_cons (pv 0) (pa_cons (pe_bltn (v := .ty "str") (by rfl) T.z_str (by decide +kernel) rfl) pa_nil))))) (pw_or1 (pt_not (pt_chain op_le op_le pe_int (pe_callB (call_len_str) (by rfl) T.z_len (by decide +kernel) (pa_cons (pv 0) pa_nil)) (pe_glob (v := V.int 8) (by rfl) T.g_MOST_LETTERS ⟨_, rfl⟩))))))
      (pss_one (ps_ret pe_bl))
      pss_nil)
      (pss_one (ps_ret (pe_and (pe_m0 PySem.F.slot_str_isascii PySem.F.type_str_isascii mt_isascii (pv 0)) (pe_and (pe_m0 PySem.F.slot_str_isalpha PySem.F.type_str_isalpha mt_isalpha (pv 0)) (pe_one (pe_m0 PySem.F.slot_str_islower PySem.F.type_str_islower mt_islower (pv 0)))))))), ?_⟩
    rcases h with ⟨hs, q⟩ | ⟨x, rfl, hx, q⟩
    · obtain ⟨n, ty, kit⟩ := nostr_ty hs
      refine ⟨_, rfl, v, .ty "str", _, _, false, rfl, .ty "str", ty, kit, false, rfl, ?_⟩
      exact iteT (iteT q)
    · refine ⟨_, rfl, .str x, .ty "str", _, _, true, rfl, .ty "str", .base (.str x), kit_ty (by decide +kernel), true, rfl, ?_⟩
      refine iteF ?_
      have eW : isWordB x = (decide (1 ≤ x.length) && (decide (x.length ≤ 8) && (Txt.isascii x && (Txt.isalpha x && Txt.islower x)))) := rfl
      refine ⟨_, rfl, x, rfl, by omega, _, _, rfl, rfl, _, rfl, ?_⟩
      by_cases h1 : 1 ≤ x.length
      · rw [decide_eq_true (show (1 : Int) ≤ (x.length : Nat) by omega)]
        rw [decide_eq_true h1, Bool.true_and] at eW
        refine iteT ?_
        refine ⟨_, _, rfl, rfl, _, rfl, ?_⟩
        by_cases h8 : x.length ≤ 8
        · rw [decide_eq_true (show ((x.length : Nat) : Int) ≤ 8 by omega)]
          rw [decide_eq_true h8, Bool.true_and] at eW
          refine iteF ?_
          refine ⟨_, rfl, ⟨x, rfl⟩, x, rfl, rfl, trivial, _, rfl, ?_⟩
          cases hA : Txt.isascii x with
          | false =>
            rw [hA] at eW
            rw [show isWordB x = false from eW] at q
            exact iteF q
          | true =>
            rw [hA, Bool.true_and] at eW
            refine iteT ?_
            refine ⟨_, rfl, ⟨x, rfl⟩, x, rfl, rfl, trivial, _, rfl, ?_⟩
            cases hB : Txt.isalpha x with
            | false =>
              rw [hB] at eW
              rw [show isWordB x = false from eW] at q
              exact iteF q
            | true =>
              rw [hB, Bool.true_and] at eW
              refine iteT ?_
              refine ⟨_, rfl, ⟨x, rfl⟩, x, rfl, rfl, trivial, ?_⟩
              rw [← eW]
              exact q
        · rw [decide_eq_false (show ¬ ((x.length : Nat) : Int) ≤ 8 by omega)]
          rw [decide_eq_false h8, Bool.false_and] at eW
          rw [eW] at q
          exact iteT q
      · rw [decide_eq_false (show ¬ (1 : Int) ≤ (x.length : Nat) by omega)]
        rw [decide_eq_false h1, Bool.false_and] at eW
        rw [eW] at q
        refine iteF ⟨_, rfl, ?_⟩
        exact iteT q
theorem cal_is_word (T : Top K mg) (hN : base.NoSeer) (hT : P.given.tree = none) : Cal P w K mg base 1 "is_word" (sp_is_word K) [] := ⟨⟨_, _, _, [], ok_is_word T hN hT, T.g_is_word, T.F_is_word.kp, T.b_is_word, .nil⟩⟩
def sp_is_name (K : PySem.W.Frag) : Sp := fun vs H Q _ => ∃ v, vs = [v] ∧ ((NoStr K H v ∧ Q (.bl false) H) ∨ ∃ s : Str, v = .str s ∧ s.length ≤ 3000 ∧ Q (.bl (isNameB s)) H)
theorem ok_is_name (T : Top K mg) (hN : base.NoSeer) (hT : P.given.tree = none) : FnOk P w K mg base CX0 2 T.a_is_name T.d_is_name ["value"] (sp_is_name K) := by
  refine T.F_is_name.ok sc_is_name (fun vs H Q E h => ?_) (fun cdv A outer s H vs Q E hr h => ?_)
  · obtain ⟨v, rfl, _⟩ := h
    rfl
  · obtain ⟨v, rfl, h⟩ := h
    refine ⟨_, (pss_one (ps_ret (pe_and (pe_c (cal_is_word T hN hT) hr (by decide) (by rfl) (pa_cons (pv 0) pa_nil)) (pe_and (pe_cmpR (op_notInK K rfl) (pv 0) (pe_glob (v := V.ref T.t_COMMANDS) (by rfl) T.g_COMMANDS rfl) (by with_unfolding_all rfl)) (pe_one (pe_cmpR op_ne (pv 0) pe_str (nomark _))))))), ?_⟩
    rcases h with ⟨hs, q⟩ | ⟨x, rfl, hx, q⟩
    · refine ⟨_, rfl, v, rfl, .inl ⟨hs, ?_⟩⟩
      exact ⟨_, rfl, q⟩
    · refine ⟨_, rfl, .str x, rfl, .inr ⟨x, rfl, hx, ?_⟩⟩
      have eN : isNameB x = (isWordB x && (!inV (.str x) (comL.map V.str) && !decide (x = ("let" : Str)))) := rfl
      refine ⟨_, rfl, ?_⟩
      cases hW : isWordB x with
      | false =>
        rw [hW, Bool.false_and] at eN
        rw [eN] at q
        exact iteF q
      | true =>
        rw [hW, Bool.true_and] at eN
        refine iteT ?_
        refine ⟨_, rfl, T.t_COMMANDS, comL.map V.str, rfl, .inr (T.q_COMMANDS H), rfl, rfl, _, rfl, ?_⟩
        cases hI : inV (.str x) (comL.map V.str) with
        | true =>
          rw [hI] at eN
          rw [show isNameB x = false from eN] at q
          exact iteF q
        | false =>
          rw [hI] at eN
          refine iteT ?_
          refine ⟨_, rfl, rfl, ?_⟩
          rw [show (!decide (V.str x = V.str ("let" : Str))) = isNameB x from ?_]
          · exact q
          · rw [eN, Bool.not_false, Bool.true_and]
            by_cases h : x = ("let" : Str)
            · rw [h]
              rfl
            · rw [decide_eq_false h, decide_eq_false fun z => h (V.str.inj z)]
theorem cal_is_name (T : Top K mg) (hN : base.NoSeer) (hT : P.given.tree = none) : Cal P w K mg base 2 "is_name" (sp_is_name K) [] := ⟨⟨_, _, _, [], ok_is_name T hN hT, T.g_is_name, T.F_is_name.kp, T.b_is_name, .nil⟩⟩
def sp_checked_name (K : PySem.W.Frag) (X : Addr) : Sp := fun vs H Q E => ∃ s : Str, vs = [.str s] ∧ s.length ≤ 3000 ∧ ((isNameB s = true ∧ Q (.str s) H) ∨ (isNameB s = false ∧ ENo E X H))
theorem ok_checked_name (T : Top K mg) (hN : base.NoSeer) (hT : P.given.tree = none) : FnOk P w K mg base (L2.CX P w) 3 T.a_checked_name T.d_checked_name ["word"] (sp_checked_name K T.X_NoText) := by
  refine T.F_checked_name.okX sc_checked_name (fun vs H Q E h => ?_) (fun cdv A outer s H vs Q E hr h => ?_)
  · obtain ⟨x, rfl, _⟩ := h
    rfl
  · obtain ⟨x, rfl, hx, h⟩ := h
    refine ⟨_, (pss_cons (ps_if (pt_not (pt_val (pe_c (cal_is_name T hN hT) hr (by decide) (by rfl) (pa_cons (pv 0) pa_nil))))
      (pss_one (ps_raise rfl (takes_of rfl rfl rfl rfl) (pmk_oex T.oX_NoText T.nI_NoText T.jI_NoText (ok_NoText_init T hN hT) (hr.mono (by decide)) T.b_NoText_init .nil pass0 (by rfl) T.gX_NoText (pa_cons pe_int pa_nil))))
      pss_nil)
      (pss_one (ps_ret (pv 0)))), ?_⟩
    refine ⟨_, rfl, .str x, rfl, .inr ⟨x, rfl, hx, ?_⟩⟩
    refine ⟨_, rfl, ?_⟩
    rcases h with ⟨hn, q⟩ | ⟨hn, en⟩
    · rw [hn]
      refine iteF ?_
      exact ⟨_, rfl, q⟩
    · rw [hn]
      refine iteT ?_
      exact ⟨by decide, fun a na => made_no en a na⟩
/-! ### numbers of a line -/
def isNum4 (w : Str) : Bool :=
  decide ((Txt.removeprefix w ("-" : Str)).length ≤ 4) && Txt.isascii (Txt.removeprefix w ("-" : Str)) && Txt.isdigit (Txt.removeprefix w ("-" : Str)) && (!Txt.startswith (Txt.removeprefix w ("-" : Str)) ("0" : Str) || decide (w = ("0" : Str)))
def sp_is_number4 : Sp := fun vs H Q _ => ∃ (x : Str), vs = [.str x, .int 4] ∧ x.length ≤ 1000 ∧ Q (.bl (isNum4 x)) H
theorem ok_is_number4 (T : Top K mg) (hN : base.NoSeer) (hT : P.given.tree = none) : FnOk P w K mg base CX0 1 T.a_is_number T.d_is_number ["word", "most"] sp_is_number4 := by
  refine T.F_is_number.ok sc_is_number (fun vs H Q E h => ?_) (fun cdv A outer s H vs Q E hr h => ?_)
  · obtain ⟨x, rfl, _⟩ := h
    rfl
  · obtain ⟨x, rfl, hx, q⟩ := h
    have hl := pre_le (x := x) (y := "-")
    have hz : 1000 ≤ sizeLine := by decide
    refine ⟨_, (pss_cons (ps_set (i := 2) sc_is_number.nd rfl (by first | exact .inl rfl | exact .inr rfl) (pe_m1 PySem.F.slot_str_removeprefix PySem.F.type_str_removeprefix mt_removeprefix (pv 0) pe_str))
      (pss_cons (ps_if (PW.pt (pw_or (pt_cmpR op_gt (pe_callB (call_len_str) (by rfl) T.z_len (by decide +kernel) (pa_cons (pv 2) pa_nil)) (pv 1) (nomark _)) (pw_or (pt_not (pt_val (pe_m0 PySem.F.slot_str_isascii PySem.F.type_str_isascii mt_isascii (pv 2)))) (pw_or1 (pt_not (pt_val (pe_m0 PySem.F.slot_str_isdigit PySem.F.type_str_isdigit mt_isdigit (pv 2))))))))
      (pss_one (ps_ret pe_bl))
      pss_nil)
      (pss_one (ps_ret (pe_or (pe_not (pe_m1 PySem.F.slot_str_startswith PySem.F.type_str_startswith mt_startswith (pv 2) pe_str)) (pe_one (pe_cmpR op_eq (pv 0) pe_str (nomark _)))))))), ?_⟩
    refine ⟨_, rfl, ⟨x, rfl⟩, x, _, rfl, rfl, by omega, ?_⟩
    generalize hd : Txt.removeprefix x ("-" : Str) = d at hl
    refine ⟨_, rfl, d, rfl, by omega, _, rfl, _, _, rfl, rfl, _, rfl, ?_⟩
    have eN : isNum4 x = (decide (d.length ≤ 4) && Txt.isascii d && Txt.isdigit d && (!Txt.startswith d ("0" : Str) || decide (x = ("0" : Str)))) := by
      unfold isNum4
      rw [hd]
    by_cases h5 : d.length ≤ 4
    · rw [decide_eq_false (show ¬ (4 : Int) < (d.length : Nat) by omega)]
      refine iteF ?_
      rw [decide_eq_true h5, Bool.true_and] at eN
      refine ⟨_, rfl, ⟨d, rfl⟩, d, rfl, rfl, trivial, _, rfl, ?_⟩
      cases hA : Txt.isascii d with
      | false =>
        rw [hA] at eN
        rw [show isNum4 x = false from eN] at q
        exact iteT (iteT q)
      | true =>
        rw [hA, Bool.true_and] at eN
        refine iteF ?_
        refine ⟨_, rfl, ⟨d, rfl⟩, d, rfl, rfl, trivial, _, rfl, ?_⟩
        cases hD : Txt.isdigit d with
        | false =>
          rw [hD] at eN
          rw [show isNum4 x = false from eN] at q
          exact iteT q
        | true =>
          rw [hD, Bool.true_and] at eN
          refine iteF ?_
          refine ⟨_, rfl, ⟨d, rfl⟩, d, _, rfl, rfl, _, rfl, _, rfl, ?_⟩
          cases hS : Txt.startswith d ("0" : Str) with
          | false =>
            rw [hS] at eN
            rw [show isNum4 x = true from eN] at q
            exact iteT q
          | true =>
            rw [hS] at eN
            refine iteF ?_
            refine ⟨_, rfl, rfl, ?_⟩
            rw [show decide (V.str x = V.str ("0" : Str)) = isNum4 x from ?_]
            · exact q
            · rw [eN]
              by_cases h : x = ("0" : Str)
              · rw [h]
                rfl
              · rw [decide_eq_false h, decide_eq_false fun z => h (V.str.inj z)]
                rfl
    · rw [decide_eq_true (show (4 : Int) < (d.length : Nat) by omega)]
      rw [decide_eq_false h5] at eN
      rw [show isNum4 x = false from eN] at q
      exact iteT (iteT q)
theorem cal_is_number4 (T : Top K mg) (hN : base.NoSeer) (hT : P.given.tree = none) : Cal P w K mg base 1 "is_number" sp_is_number4 [] := ⟨⟨_, _, _, [], ok_is_number4 T hN hT, T.g_is_number, T.F_is_number.kp, T.b_is_number, .nil⟩⟩
theorem isNum4_B {w : Str} (h : isNum4 w = true) : isNumB w = true := by
  unfold isNum4 at h
  unfold isNumB
  simp only [Bool.and_eq_true, decide_eq_true_eq] at h ⊢
  exact ⟨⟨⟨by omega, h.1.1.2⟩, h.1.2⟩, h.2⟩
theorem dig4 {w : Str} (h : isNum4 w = true) : ∃ n, intText? w = some n := by
  have hB := isNum4_B h
  have hl := num_len hB
  unfold isNum4 at h
  simp only [Bool.and_eq_true, Bool.or_eq_true] at h
  obtain ⟨⟨⟨_, h1⟩, h2⟩, _⟩ := h
  obtain ⟨ne, dg⟩ := digits_of h1 h2
  rw [PySem.StrLaws.removeprefix_eq] at ne dg
  by_cases hc : (decide (0 + ("-" : Str).length ≤ w.length) && PySem.Builtin.Str.subAt w ("-" : Str) 0) = true
  · rw [if_pos hc] at ne dg
    rw [Bool.and_eq_true] at hc
    have hs := hc.2
    rw [sub0 (a := 45) rfl] at hs
    have hs : (TL.tl w).take 1 = [45] := eq_of_beq hs
    obtain ⟨q, hq⟩ : ∃ q, TL.tl w = 45 :: q := by
      cases hw : TL.tl w with
      | nil => rw [hw] at hs; cases hs
      | cons c q => rw [hw] at hs; injection hs with hs; exact ⟨q, by rw [hs]⟩
    have e : (w.cps.toList.drop ("-" : Str).length).take (w.length - ("-" : Str).length) = q := by
      have hq' : w.cps.toList = 45 :: q := hq
      have hl : w.length = q.length + 1 := by rw [TL.len_tl w, hq]; rfl
      rw [show ("-" : Str).length = 1 from rfl, hl, hq', List.drop_succ_cons, List.drop_zero, Nat.add_sub_cancel, List.take_length]
    rw [e] at ne dg
    exact ⟨_, PySem.intText_neg hq (fun c hc => dg c hc) ne (by omega)⟩
  · rw [if_neg hc] at ne dg
    exact ⟨_, PySem.intText_digits (fun c hc => dg c hc) ne (by omega)⟩
def numV (w : Str) : Int := (intText? w).getD 0
def sp_read_number (K : PySem.W.Frag) (X : Addr) : Sp := fun vs H Q E => ∃ (s : Str) (l : Int), vs = [.str s, .int l] ∧ s.length ≤ 1000 ∧ ((isNum4 s = true ∧ l ≤ numV s ∧ Q (.int (numV s)) H) ∨ ((isNum4 s = false ∨ numV s < l) ∧ ENo E X H))
theorem ok_read_number (T : Top K mg) (hN : base.NoSeer) (hT : P.given.tree = none) : FnOk P w K mg base (L2.CX P w) 3 T.a_read_number T.d_read_number ["word", "least"] (sp_read_number K T.X_NoText) := by
  refine T.F_read_number.okX sc_read_number (fun vs H Q E h => ?_) (fun cdv A outer s H vs Q E hr h => ?_)
  · obtain ⟨x, l, rfl, _⟩ := h
    rfl
  · obtain ⟨x, l, rfl, hx, h⟩ := h
    refine ⟨_, (pss_cons (ps_if (PW.pt (pw_or (pt_not (pt_val (pe_c (cal_is_number4 T hN hT) hr (by decide) (by rfl) (pa_cons (pv 0) (pa_cons (pe_glob (v := V.int 4) (by rfl) T.g_MOST_DIGITS_sheet ⟨_, rfl⟩) pa_nil))))) (pw_or1 (pt_cmpR op_lt (pe_callTy call_int_str (by rfl) T.z_int (by decide +kernel) (pa_cons (pv 0) pa_nil)) (pv 1) (nomark _)))))
      (pss_one (ps_raise rfl (takes_of rfl rfl rfl rfl) (pmk_oex T.oX_NoText T.nI_NoText T.jI_NoText (ok_NoText_init T hN hT) (hr.mono (by decide)) T.b_NoText_init .nil pass0 (by rfl) T.gX_NoText (pa_cons pe_int pa_nil))))
      pss_nil)
      (pss_one (ps_ret (pe_callTy call_int_str (by rfl) T.z_int (by decide +kernel) (pa_cons (pv 0) pa_nil))))), ?_⟩
    refine ⟨_, rfl, x, rfl, hx, ?_⟩
    refine ⟨_, rfl, ?_⟩
    cases h4 : isNum4 x with
    | false =>
      rcases h with ⟨hn, _⟩ | ⟨_, en⟩
      · rw [h4] at hn
        cases hn
      refine iteT (iteT ?_)
      exact ⟨by decide, fun a na => made_no en a na⟩
    | true =>
      refine iteF ?_
      obtain ⟨n, en⟩ := dig4 h4
      have h6 := num_len (isNum4_B h4)
      have ev : numV x = n := by unfold numV; rw [en]; rfl
      rw [ev] at h
      refine ⟨_, rfl, x, n, rfl, en, by omega, _, rfl, _, _, rfl, rfl, _, rfl, ?_⟩
      rcases h with ⟨_, hl, q⟩ | ⟨hl, eno⟩
      · rw [decide_eq_false (show ¬ n < l by omega)]
        refine iteF ?_
        exact ⟨_, rfl, x, n, rfl, en, by omega, q⟩
      · have hl : n < l := by
          rcases hl with hl | hl
          · rw [h4] at hl
            cases hl
          · exact hl
        rw [decide_eq_true hl]
        refine iteT ?_
        exact ⟨by decide, fun a na => made_no eno a na⟩

end
end K50
namespace K50
open PySem PySem.Spec PyProof.Rows L2 Gm
open C8 (Cal Met Mak pe_c pe_mt pe_mt0 pe_mk)
section
variable {P : Program} {w : World} {K : PySem.W.Frag} {mg : Str → Option Value} {base : Heap}
/-! ### lines -/
def okSign (c : Nat) : Bool := (!decide ([c] < [32])) && ((!decide ([126] < [c])) && !decide (c = 37))
def isLineB (s : Str) : Bool := (TL.tl s).all okSign
def sp_is_line (K : PySem.W.Frag) : Sp := fun vs H Q _ => ∃ v, vs = [v] ∧ ((NoStr K H v ∧ Q (.bl false) H) ∨ (∃ s : Str, v = .str s ∧ 2000 < s.length ∧ s.length ≤ 3000 ∧ Q (.bl false) H) ∨ ∃ s : Str, v = .str s ∧ s.length ≤ 900 ∧ ∀ H', Same H H' → Q (.bl (isLineB s)) H')
theorem ok_is_line (T : Top K mg) (hN : base.NoSeer) (hT : P.given.tree = none) : FnOk P w K mg base CX0 1 T.a_is_line T.d_is_line ["value"] (sp_is_line K) := by
  refine T.F_is_line.ok sc_is_line (fun vs H Q E h => ?_) (fun cdv A outer s H vs Q E hr h => ?_)
  · obtain ⟨v, rfl, _⟩ := h
    rfl
  · obtain ⟨v, rfl, h⟩ := h
    have hz : 100000 ≤ sizeLine := by decide
    refine ⟨_, (pss_cons (ps_if (PW.pt (pw_or (pt_not (pt_val (pe_callB (isiK K rfl) (by rfl) T.z_isinstance (by decide +kernel) (pa_cons (pv 0) (pa_cons (pe_bltn (v := .ty "str") (by rfl) T.z_str (by decide +kernel) rfl) pa_nil))))) (pw_or1 (pt_cmpR op_gt (pe_callB (call_len_str) (by rfl) T.z_len (by decide +kernel) (pa_cons (pv 0) pa_nil)) (pe_glob (v := V.int 2000) (by rfl) T.g_MOST_SIGNS ⟨_, rfl⟩) (nomark _)))))
      (pss_one (ps_ret pe_bl))
      pss_nil)
      (pss_one (ps_ret (pe_callB (allK K rfl rfl) (by rfl) T.z_all (by decide +kernel) (pa_cons (pe_lc (own := [("sign", 1)]) (g := (gName 1)) (by rfl) sc_is_line.nd (pi_str (pv 0)) ((by show BlkOk ["value", "sign"] (defScope s_is_line) _ _; exact blkOk_by (by decide +kernel))) (fun _ _ _ _ _ => (pg_name (i := 1) sc_is_line.nd rfl (by first | exact .inl rfl | exact .inr rfl))) (fun _ _ _ _ _ => pts_nil) (fun _ _ _ _ _ => (pe_and (pe_chain op_le_str op_le_str pe_str (pv 1) pe_str) (pe_one (pe_cmpR op_ne (pe_callB (call_ord) (by rfl) T.z_ord (by decide +kernel) (pa_cons (pv 1) pa_nil)) (pe_glob (v := V.int 37) (by rfl) T.g_PERCENT ⟨_, rfl⟩) (nomark _)))))) pa_nil))))), ?_⟩
    rcases h with ⟨hs, q⟩ | ⟨x, rfl, h2, h3, q⟩ | ⟨x, rfl, hx, q⟩
    · obtain ⟨n, ty, kit⟩ := nostr_ty hs
      refine ⟨_, rfl, v, .ty "str", _, _, false, rfl, .ty "str", ty, kit, false, rfl, ?_⟩
      exact iteT (iteT q)
    · refine ⟨_, rfl, .str x, .ty "str", _, _, true, rfl, .ty "str", .base (.str x), kit_ty (by decide +kernel), true, rfl, ?_⟩
      refine iteF ?_
      refine ⟨_, rfl, x, rfl, by omega, _, _, rfl, rfl, _, rfl, ?_⟩
      rw [decide_eq_true (show (2000 : Int) < (x.length : Nat) by omega)]
      exact iteT q
    · refine ⟨_, rfl, .str x, .ty "str", _, _, true, rfl, .ty "str", .base (.str x), kit_ty (by decide +kernel), true, rfl, ?_⟩
      refine iteF ?_
      refine ⟨_, rfl, x, rfl, by omega, _, _, rfl, rfl, _, rfl, ?_⟩
      rw [decide_eq_false (show ¬ (2000 : Int) < (x.length : Nat) by omega)]
      refine iteF ?_
      refine ⟨_, rfl, x, rfl, fun D hD => ?_⟩
      refine lc_all walk_str hD (by show x.length ≤ 1000; omega) (fun _ _ => trivial) (fun i v _ => ∃ c, (TL.tl x)[i]? = some c ∧ v = .bl (okSign c)) (fun _ _ _ _ _ _ _ h => h) ?_ gm_name ?_
      · rintro i y H1 H1' acc Ko hi s1 eD ⟨rfl, c, ec, rfl⟩ kk
        have ec' : (TL.tl x)[i]? = some c := by rw [← ec]; exact Array.getElem?_toList
        refine ⟨rfl, ?_⟩
        have eO : okSign c = ((!decide ([c] < [32])) && ((!decide ([126] < [c])) && !decide (c = 37))) := rfl
        refine ⟨_, rfl, _, _, rfl, rfl, _, rfl, ?_⟩
        show if (!decide ([c] < [32])) = true then _ else _
        cases hA : (!decide ([c] < [32])) with
        | false =>
          rw [hA] at eO
          exact iteF ⟨_, rfl, iteF (kk _ _ (Same.refl _) ⟨c, ec', by rw [show okSign c = false from eO]⟩)⟩
        | true =>
          rw [hA, Bool.true_and] at eO
          refine iteT ?_
          refine ⟨_, _, rfl, rfl, _, rfl, ?_⟩
          show if (!decide ([126] < [c])) = true then _ else _
          cases hB : (!decide ([126] < [c])) with
          | false =>
            rw [hB] at eO
            exact iteF (kk _ _ (Same.refl _) ⟨c, ec', by rw [show okSign c = false from eO]⟩)
          | true =>
            rw [hB, Bool.true_and] at eO
            refine iteT ?_
            refine ⟨_, rfl, ⟨#[c]⟩, rfl, rfl, rfl, ?_⟩
            refine kk _ _ (Same.refl _) ⟨c, ec', ?_⟩
            rw [eO]
            by_cases h : c = 37
            · rw [h]
              rfl
            · rw [decide_eq_false h, decide_eq_false (p := V.int ((#[c].getD 0 0 : Nat) : Int) = V.int 37) fun z => h (by have := V.int.inj z; have : ((c : Nat) : Int) = 37 := this; omega)]
      intro H1 l1 s1 eD hpl
      have el : l1 = (TL.tl x).map fun c => V.bl (okSign c) := vals_list (f := fun c => V.bl (okSign c)) (TL.len_tl x).symm hpl
      subst el
      refine ⟨D, (TL.tl x).map okSign, rfl, .inl (.inl (by rw [List.map_map]; exact eD)), ?_⟩
      rw [show ((TL.tl x).map okSign).all id = isLineB x by unfold isLineB; rw [List.all_map]; rfl]
      exact q _ s1
theorem cal_is_line (T : Top K mg) (hN : base.NoSeer) (hT : P.given.tree = none) : Cal P w K mg base 1 "is_line" (sp_is_line K) [] := ⟨⟨_, _, _, [], ok_is_line T hN hT, T.g_is_line, T.F_is_line.kp, T.b_is_line, .nil⟩⟩

end
end K50
namespace K50
open PySem PySem.Spec PyProof.Rows L2 Gm
open C8 (Cal Met Mak pe_c pe_mt pe_mt0 pe_mk)
section
variable {P : Program} {w : World} {K : PySem.W.Frag} {mg : Str → Option Value} {base : Heap}
/-! ### read_let -/
def BadM (K : PySem.W.Frag) (CG XM XR : Addr) (m : List (List Int)) : Prop := ∀ (a : Addr) (ws : List V) (H1 : Hp) (E1 : XK), Gm.Seq K H1 a ws → Paired (IRow K H1) ws m → (∀ H', Same H1 H' → E1 (.ref XM) none H') → (∀ d H', Same H1 H' → E1 (.ref XR) d H') → sp_checked_gram_SM K CG XM [.ref a] H1 (fun _ _ => False) E1 ∨ sp_checked_gram_SX K CG XR [.ref a] H1 (fun _ _ => False) E1
theorem lat_same {K : PySem.W.Frag} {CG CL : Addr} {H H' : Hp} {v : V} {m : List (List Int)} {n : Nat} (s : Same H H') (h : IsLat K CG CL H v m n) : IsLat K CG CL H' v m n := by
  obtain ⟨⟨q, dx, g, e, ho, G⟩, gm⟩ := h
  exact ⟨⟨q, dx, g, e, s _ _ ho, IsGrid.same s G⟩, gm⟩
def sp_read_let (K : PySem.W.Frag) (CG CL XM XR X : Addr) : Sp := fun vs H Q E => ∃ (s h e t : Str), vs = [.str s] ∧ s.length ≤ 900 ∧ Txt.partition s ("=" : Str) = (h, e, t) ∧ h.length ≤ 900 ∧ t.length ≤ 900 ∧
  (((Txt.words h).length ≠ 2 ∧ ENo E X H) ∨ ∃ w0 w1 : Str, Txt.words h = [w0, w1] ∧ w1.length ≤ 900 ∧ (Txt.strip t).length ≤ 200 ∧
    ((isNameB w1 = false ∧ ENo E X H) ∨ (isNameB w1 = true ∧ ((okT (Txt.strip t) = false ∧ ENo E X H) ∨ (okT (Txt.strip t) = true ∧ ∃ m : List (List Int), Nums (Txt.strip t) m ∧
      ((∃ n, Gram n m ∧ ∀ p lv H', Same H H' → SqT K H' p [.str "let", .str w1, lv] → IsLat K CG CL H' lv m n → Q (.ref p) H') ∨ (BadM K CG XM XR m ∧ ENo E X H)))))))
theorem ok_read_let (T : Top K mg) (hN : base.NoSeer) (hT : P.given.tree = none) : FnOk P w K mg base (L2.CX P w) 48 T.a_read_let T.d_read_let ["line"] (sp_read_let K T.C_Grid T.C_Lattice T.X_Malformed T.X_Refused T.X_NoText) := by
  refine T.F_read_let.okX sc_read_let (fun vs H Q E h => ?_) (fun cdv A outer s H vs Q E hr h => ?_)
  · obtain ⟨x, _, _, _, rfl, _⟩ := h
    rfl
  · obtain ⟨x, h0, e0, t0, rfl, hx, ep, hh, ht, h⟩ := h
    have hz : 100000 ≤ sizeLine := by decide
    refine ⟨_, (pss_cons (ps_asg (pe_partition (pv 0) pe_str) (pg_tup rfl (pgs_cons (pg_name (i := 1) sc_read_let.nd rfl (by first | exact .inl rfl | exact .inr rfl)) (pgs_cons (pg_name (i := 2) sc_read_let.nd rfl (by first | exact .inl rfl | exact .inr rfl)) (pgs_cons (pg_name (i := 3) sc_read_let.nd rfl (by first | exact .inl rfl | exact .inr rfl)) pgs_nil)))))
      (pss_cons (ps_set (i := 4) sc_read_let.nd rfl (by first | exact .inl rfl | exact .inr rfl) (pe_words (pv 1)))
      (pss_cons (ps_if (pt_cmpR op_ne (pe_callB (lenS K rfl) (by rfl) T.z_len (by decide +kernel) (pa_cons (pv 4) pa_nil)) pe_int (nomark _))
      (pss_one (ps_raise rfl (takes_of rfl rfl rfl rfl) (pmk_oex T.oX_NoText T.nI_NoText T.jI_NoText (ok_NoText_init T hN hT) (hr.mono (by decide)) T.b_NoText_init .nil pass0 (by rfl) T.gX_NoText (pa_cons pe_int pa_nil))))
      pss_nil)
      (pss_one (ps_ret (pe_tup (pa_cons pe_str (pa_cons (pe_call (E := E) (ok_checked_name T hN hT) (hr.mono (by decide)) (by rfl) T.g_checked_name T.F_checked_name.kp T.b_checked_name .nil (passes_call (takes_of rfl rfl rfl rfl) (fun _ _ _ _ h => h)) (pa_cons (pe_ix (ixL K rfl) (pv 4) pe_int (fun _ _ => rfl)) pa_nil)) (pa_cons (pe_call (E := E) (ok_read_lattice T hN hT) (hr.mono (by decide)) (by rfl) T.g_read_lattice T.F_read_lattice.kp T.b_read_lattice .nil (passes_call (takes_of rfl rfl rfl rfl) (fun _ _ _ _ h => h)) (pa_cons (pe_strip (pv 3)) pa_nil)) pa_nil))))))))), ?_⟩
    refine ⟨_, rfl, ⟨x, rfl⟩, x, _, rfl, rfl, rfl, by omega, fun p1 np1 => ?_⟩
    rw [ep]
    have s1 := same_upd (o := .tup [V.str h0, V.str e0, V.str t0]) np1
    have e1 : (upd H p1 (.tup [V.str h0, V.str e0, V.str t0])) p1 = some (.tup [V.str h0, V.str e0, V.str t0]) := upd_same
    generalize upd H p1 (.tup [V.str h0, V.str e0, V.str t0]) = H1 at s1 e1 ⊢
    refine ⟨p1, _, rfl, .inl (.inl e1), rfl, _, _, rfl, _, _, rfl, _, _, rfl, rfl, ?_⟩
    refine ⟨_, rfl, ⟨h0, rfl⟩, h0, rfl, rfl, by omega, fun p2 np2 => ?_⟩
    obtain ⟨ws, hws⟩ : ∃ ws, Txt.words h0 = ws := ⟨_, rfl⟩
    rw [hws] at h ⊢
    have s2 := same_upd (o := .lst (ws.map V.str)) np2
    have e2 : (upd H1 p2 (.lst (ws.map V.str))) p2 = some (.lst (ws.map V.str)) := upd_same
    generalize upd H1 p2 (.lst (ws.map V.str)) = H2 at s2 e2 ⊢
    have s12 := s1.trans s2
    refine ⟨_, rfl, p2, _, rfl, .inl (.inl (.inl e2)), rfl, _, rfl, ?_⟩
    rw [List.length_map]
    rcases h with ⟨hl, en⟩ | ⟨w0, w1, rfl, hw1, hst, h⟩
    · rw [show (!decide (V.int (ws.length : Nat) = V.int 2)) = true by rw [decide_eq_false fun z => hl (by have := V.int.inj z; omega)]; rfl]
      refine iteT ?_
      exact ⟨by decide, fun a na => made_no (en.at s12) a na⟩
    rw [show (!decide (V.int (([w0, w1] : List Str).length : Nat) = V.int 2)) = false by show (!decide (V.int 2 = V.int 2)) = false; rw [decide_eq_true (rfl : V.int 2 = V.int 2)]; rfl]
    refine iteF ?_
    refine ⟨_, rfl, p2, _, _, _, rfl, rfl, .inl (.inl e2), at_of (j := 1) rfl rfl, w1, rfl, by omega, ?_⟩
    rcases h with ⟨hn, en⟩ | ⟨hn, h⟩
    · exact .inr ⟨hn, en.at s12⟩
    refine .inl ⟨hn, ?_⟩
    refine ⟨_, rfl, ⟨t0, rfl⟩, t0, rfl, rfl, by omega, .str (Txt.strip t0), rfl, .inr ⟨_, rfl, hst, ?_⟩⟩
    rcases h with ⟨hf, en⟩ | ⟨hk, m, nums, ⟨n, gm, q⟩ | ⟨bad, en⟩⟩
    · exact .inl ⟨hf, en.at s12⟩
    · refine .inr ⟨hk, m, nums, .inl ⟨n, gm, fun x H3 s3 L3 => ?_⟩⟩
      refine ⟨by show 3 ≤ sizeLine; decide, fun p4 np4 => ?_⟩
      have s4 := same_upd (o := .tup [V.str "let", V.str w1, V.ref x]) np4
      exact q p4 (.ref x) _ (s12.trans (s3.trans s4)) (.inl (.inl upd_same)) (lat_same s4 L3)
    · exact .inr ⟨hk, m, nums, .inr ⟨bad, en.at s12⟩⟩

end
end K50
namespace K50
open PySem PySem.Spec PyProof.Rows L2 Gm
open C8 (Cal Met Mak pe_c pe_mt pe_mt0 pe_mk)
section
variable {P : Program} {w : World} {K : PySem.W.Frag} {mg : Str → Option Value} {base : Heap}
theorem op_inK {X : Cx} (K : PySem.W.Frag) (hK : X.K = K) : OpR X (compareOp .In) (rIn K false) := by
  subst hK
  exact op_in_seq
def sp_read_number_G : Sp := fun vs H Q _ => ∃ (s : Str) (l : Int), vs = [.str s, .int l] ∧ s.length ≤ 1000 ∧ isNum4 s = true ∧ l ≤ numV s ∧ Q (.int (numV s)) H
theorem ok_read_number_G (T : Top K mg) (hN : base.NoSeer) (hT : P.given.tree = none) : FnOk P w K mg base CX0 3 T.a_read_number T.d_read_number ["word", "least"] sp_read_number_G := by
  refine T.F_read_number.ok sc_read_number (fun vs H Q E h => ?_) (fun cdv A outer s H vs Q E hr h => ?_)
  · obtain ⟨x, l, rfl, _⟩ := h
    rfl
  · obtain ⟨x, l, rfl, hx, h4, hl, q⟩ := h
    refine ⟨_, (pss_cons (ps_if (PW.pt (pw_or (pt_not (pt_val (pe_c (cal_is_number4 T hN hT) hr (by decide) (by rfl) (pa_cons (pv 0) (pa_cons (pe_glob (v := V.int 4) (by rfl) T.g_MOST_DIGITS_sheet ⟨_, rfl⟩) pa_nil))))) (pw_or1 (pt_cmpR op_lt (pe_callTy call_int_str (by rfl) T.z_int (by decide +kernel) (pa_cons (pv 0) pa_nil)) (pv 1) (nomark _)))))
      (pss_one ps_never)
      pss_nil)
      (pss_one (ps_ret (pe_callTy call_int_str (by rfl) T.z_int (by decide +kernel) (pa_cons (pv 0) pa_nil))))), ?_⟩
    refine ⟨_, rfl, x, rfl, hx, ?_⟩
    refine ⟨_, rfl, ?_⟩
    rw [h4]
    refine iteF ?_
    obtain ⟨n, en⟩ := dig4 h4
    have h6 := num_len (isNum4_B h4)
    have ev : numV x = n := by unfold numV; rw [en]; rfl
    rw [ev] at hl q
    refine ⟨_, rfl, x, n, rfl, en, by omega, _, rfl, _, _, rfl, rfl, _, rfl, ?_⟩
    rw [decide_eq_false (show ¬ n < l by omega)]
    refine iteF ?_
    exact ⟨_, rfl, x, n, rfl, en, by omega, q⟩
theorem cal_read_number_G (T : Top K mg) (hN : base.NoSeer) (hT : P.given.tree = none) : Cal P w K mg base 3 "read_number" sp_read_number_G [] := ⟨⟨_, _, _, [], ok_read_number_G T hN hT, T.g_read_number, T.F_read_number.kp, T.b_read_number, .nil⟩⟩
/-! ### read_words -/
def aloneL : List Str := ["form", "group", "parts", "dual", "above"]
inductive Cmd where
  | alone (w n : Str)
  | alike (n k : Str)
  | num (w n : Str) (z : Int)
  | near (n : Str) (a : List Int) (d : Int)
def IsCmd (K : PySem.W.Frag) (H : Hp) (p : Addr) : Cmd → Prop
  | .alone w n => SqT K H p [.str w, .str n]
  | .alike n k => SqT K H p [.str "alike", .str n, .str k]
  | .num w n z => SqT K H p [.str w, .str n, .int z]
  | .near n a d => ∃ t, SqT K H p [.str "nearest", .str n, .ref t, .int d] ∧ SqT K H t (a.map V.int)
def numIf (w : Str) (l : Int) : Bool := isNum4 w && decide (l ≤ numV w)
/-- what read_words answers (the point's numbers told good ahead) -/
def readW (w : Str) (rs : List Str) : Option Cmd :=
  if inV (.str w) (aloneL.map V.str) = true ∧ rs.length = 1 then (if isNameB (rs.getD 0 "") = true then some (.alone w (rs.getD 0 "")) else none)
  else if w = ("alike" : Str) ∧ rs.length = 2 then (if isNameB (rs.getD 0 "") = true then (if isNameB (rs.getD 1 "") = true then some (.alike (rs.getD 0 "") (rs.getD 1 "")) else none) else none)
  else if w = ("short" : Str) ∧ rs.length = 2 then (if isNameB (rs.getD 0 "") = true then (if numIf (rs.getD 1 "") 0 = true then some (.num "short" (rs.getD 0 "") (numV (rs.getD 1 ""))) else none) else none)
  else if w = ("below" : Str) ∧ rs.length = 2 then (if isNameB (rs.getD 0 "") = true then (if numIf (rs.getD 1 "") 1 = true then some (.num "below" (rs.getD 0 "") (numV (rs.getD 1 ""))) else none) else none)
  else none
def isNear (w : Str) (rs : List Str) : Prop := w = ("nearest" : Str) ∧ 3 < rs.length ∧ rs.getD (rs.length - 2) "" = ("/" : Str)
theorem numIf_t {w : Str} {l : Int} (h : numIf w l = true) : isNum4 w = true ∧ l ≤ numV w := by
  unfold numIf at h
  simpa using h
theorem numIf_f {w : Str} {l : Int} (h : numIf w l = false) : isNum4 w = false ∨ numV w < l := by
  unfold numIf at h
  rw [Bool.and_eq_false_iff] at h
  rcases h with h | h
  · exact .inl h
  · exact .inr (by have := of_decide_eq_false h; omega)
theorem at_neg {xs : List V} {z : Int} {k : Nat} {v : V} (e : z = -(k : Int)) (h0 : 0 < k) (hk : k ≤ xs.length) (h : xs[xs.length - k]? = some v) : atI xs z = some v := by
  subst e
  unfold atI ixN
  rw [if_neg (by omega), if_pos (by omega)]
  show xs[_]? = some v
  rw [← h]
  congr 1
  omega
theorem and_no {b1 b2 : Bool} {A B U W : Prop} (hU : (if b2 = true then A else B) → U) (hV : B → W) (hb : ¬ (b1 = true ∧ b2 = true)) (h : B) : if b1 = true then U else W := by
  by_cases h1 : b1 = true
  · rw [if_pos h1]
    exact hU (by rw [if_neg fun z => hb ⟨h1, z⟩]; exact h)
  · rw [if_neg h1]
    exact hV h
def sp_read_words (K : PySem.W.Frag) (X : Addr) : Sp := fun vs H Q E => ∃ (s : Str) (a : Addr) (rs : List Str), vs = [.str s, .ref a] ∧ SqL K H a (rs.map V.str) ∧ rs.length ≤ 900 ∧ (∀ r ∈ rs, r.length ≤ 900) ∧ s.length ≤ 900 ∧ ¬ isNear s rs ∧
  (∀ c, readW s rs = some c → ∀ p H', Same H H' → IsCmd K H' p c → Q (.ref p) H') ∧ (readW s rs = none → ENo E X H)
theorem ok_read_words (T : Top K mg) (hN : base.NoSeer) (hT : P.given.tree = none) : FnOk P w K mg base (L2.CX P w) 4 T.a_read_words T.d_read_words ["word", "rest"] (sp_read_words K T.X_NoText) := by
  refine T.F_read_words.okX sc_read_words (fun vs H Q E h => ?_) (fun cdv A outer s H vs Q E hr h => ?_)
  · obtain ⟨x, a, rs, rfl, _⟩ := h
    rfl
  · obtain ⟨x, a, rs, rfl, ha, hl, hrs, hx, hnear, qs, qn⟩ := h
    refine ⟨_, (pss_cons (ps_if (PW.pt (pw_and (pt_cmpR (op_inK K rfl) (pv 0) (pe_glob (v := V.ref T.t_NAME_ALONE) (by rfl) T.g_NAME_ALONE rfl) (by with_unfolding_all rfl)) (pw_and1 (pt_cmpR op_eq (pe_callB (lenS K rfl) (by rfl) T.z_len (by decide +kernel) (pa_cons (pv 1) pa_nil)) pe_int (nomark _)))))
      (pss_one (ps_ret (pe_tup (pa_cons (pv 0) (pa_cons (pe_call (E := E) (ok_checked_name T hN hT) (hr.mono (by decide)) (by rfl) T.g_checked_name T.F_checked_name.kp T.b_checked_name .nil (passes_call (takes_of rfl rfl rfl rfl) (fun _ _ _ _ h => h)) (pa_cons (pe_ix (ixL K rfl) (pv 1) pe_int (fun _ _ => rfl)) pa_nil)) pa_nil)))))
      pss_nil)
      (pss_cons (ps_if (PW.pt (pw_and (pt_cmpR op_eq (pv 0) pe_str (nomark _)) (pw_and1 (pt_cmpR op_eq (pe_callB (lenS K rfl) (by rfl) T.z_len (by decide +kernel) (pa_cons (pv 1) pa_nil)) pe_int (nomark _)))))
      (pss_one (ps_ret (pe_tup (pa_cons (pv 0) (pa_cons (pe_call (E := E) (ok_checked_name T hN hT) (hr.mono (by decide)) (by rfl) T.g_checked_name T.F_checked_name.kp T.b_checked_name .nil (passes_call (takes_of rfl rfl rfl rfl) (fun _ _ _ _ h => h)) (pa_cons (pe_ix (ixL K rfl) (pv 1) pe_int (fun _ _ => rfl)) pa_nil)) (pa_cons (pe_call (E := E) (ok_checked_name T hN hT) (hr.mono (by decide)) (by rfl) T.g_checked_name T.F_checked_name.kp T.b_checked_name .nil (passes_call (takes_of rfl rfl rfl rfl) (fun _ _ _ _ h => h)) (pa_cons (pe_ix (ixL K rfl) (pv 1) pe_int (fun _ _ => rfl)) pa_nil)) pa_nil))))))
      pss_nil)
      (pss_cons (ps_if (PW.pt (pw_and (pt_cmpR op_eq (pv 0) pe_str (nomark _)) (pw_and1 (pt_cmpR op_eq (pe_callB (lenS K rfl) (by rfl) T.z_len (by decide +kernel) (pa_cons (pv 1) pa_nil)) pe_int (nomark _)))))
      (pss_one (ps_ret (pe_tup (pa_cons (pv 0) (pa_cons (pe_call (E := E) (ok_checked_name T hN hT) (hr.mono (by decide)) (by rfl) T.g_checked_name T.F_checked_name.kp T.b_checked_name .nil (passes_call (takes_of rfl rfl rfl rfl) (fun _ _ _ _ h => h)) (pa_cons (pe_ix (ixL K rfl) (pv 1) pe_int (fun _ _ => rfl)) pa_nil)) (pa_cons (pe_call (E := E) (ok_read_number T hN hT) (hr.mono (by decide)) (by rfl) T.g_read_number T.F_read_number.kp T.b_read_number .nil (passes_call (takes_of rfl rfl rfl rfl) (fun _ _ _ _ h => h)) (pa_cons (pe_ix (ixL K rfl) (pv 1) pe_int (fun _ _ => rfl)) (pa_cons pe_int pa_nil))) pa_nil))))))
      pss_nil)
      (pss_cons (ps_if (PW.pt (pw_and (pt_cmpR op_eq (pv 0) pe_str (nomark _)) (pw_and1 (pt_cmpR op_eq (pe_callB (lenS K rfl) (by rfl) T.z_len (by decide +kernel) (pa_cons (pv 1) pa_nil)) pe_int (nomark _)))))
      (pss_one (ps_ret (pe_tup (pa_cons (pv 0) (pa_cons (pe_call (E := E) (ok_checked_name T hN hT) (hr.mono (by decide)) (by rfl) T.g_checked_name T.F_checked_name.kp T.b_checked_name .nil (passes_call (takes_of rfl rfl rfl rfl) (fun _ _ _ _ h => h)) (pa_cons (pe_ix (ixL K rfl) (pv 1) pe_int (fun _ _ => rfl)) pa_nil)) (pa_cons (pe_call (E := E) (ok_read_number T hN hT) (hr.mono (by decide)) (by rfl) T.g_read_number T.F_read_number.kp T.b_read_number .nil (passes_call (takes_of rfl rfl rfl rfl) (fun _ _ _ _ h => h)) (pa_cons (pe_ix (ixL K rfl) (pv 1) pe_int (fun _ _ => rfl)) (pa_cons pe_int pa_nil))) pa_nil))))))
      pss_nil)
      (pss_cons (ps_if (PW.pt (pw_and (pt_cmpR op_eq (pv 0) pe_str (nomark _)) (pw_and (pt_cmpR op_gt (pe_callB (lenS K rfl) (by rfl) T.z_len (by decide +kernel) (pa_cons (pv 1) pa_nil)) pe_int (nomark _)) (pw_and1 (pt_cmpR op_eq (pe_ix (ixL K rfl) (pv 1) (pe_un un_neg pe_int) (fun _ _ => rfl)) pe_str (nomark _))))))
      (pss_cons (ps_set (i := 2) sc_read_words.nd rfl (by first | exact .inl rfl | exact .inr rfl) (pe_callTy (tupK K rfl) (by rfl) T.z_tuple (by decide +kernel) (pa_cons (pe_lc (own := [("item", 3)]) (g := (gName 3)) (by rfl) sc_read_words.nd (piS K rfl (pe_slice (slLK K rfl) (pv 1) (po_some pe_int) (po_some (pe_un un_neg pe_int)))) ((by show BlkOk ["word", "rest", "a", "item"] (defScope s_read_words) _ _; exact blkOk_by (by decide +kernel))) (fun _ _ _ _ _ => (pg_name (i := 3) sc_read_words.nd rfl (by first | exact .inl rfl | exact .inr rfl))) (fun _ _ _ _ _ => pts_nil) (fun _ _ _ _ _ => (pe_c (cal_read_number_G T hN hT) hr (by decide) (by rfl) (pa_cons (pv 3) (pa_cons (pe_un un_neg (pe_glob (v := V.int 9999) (by rfl) T.g_MOST_NUMBER ⟨_, rfl⟩)) pa_nil))))) pa_nil)))
      (pss_one (ps_ret (pe_tup (pa_cons (pv 0) (pa_cons (pe_call (E := E) (ok_checked_name T hN hT) (hr.mono (by decide)) (by rfl) T.g_checked_name T.F_checked_name.kp T.b_checked_name .nil (passes_call (takes_of rfl rfl rfl rfl) (fun _ _ _ _ h => h)) (pa_cons (pe_ix (ixL K rfl) (pv 1) pe_int (fun _ _ => rfl)) pa_nil)) (pa_cons (pv 2) (pa_cons (pe_call (E := E) (ok_read_number T hN hT) (hr.mono (by decide)) (by rfl) T.g_read_number T.F_read_number.kp T.b_read_number .nil (passes_call (takes_of rfl rfl rfl rfl) (fun _ _ _ _ h => h)) (pa_cons (pe_ix (ixL K rfl) (pv 1) (pe_un un_neg pe_int) (fun _ _ => rfl)) (pa_cons pe_int pa_nil))) pa_nil))))))))
      pss_nil)
      (pss_one (ps_raise rfl (takes_of rfl rfl rfl rfl) (pmk_oex T.oX_NoText T.nI_NoText T.jI_NoText (ok_NoText_init T hN hT) (hr.mono (by decide)) T.b_NoText_init .nil pass0 (by rfl) T.gX_NoText (pa_cons pe_int pa_nil))))))))), ?_⟩
    have sq : Gm.Seq K H a (rs.map V.str) := .inl ha
    have ix : ∀ {j : Nat}, j < rs.length → (rs.map V.str)[j]? = some (.str (rs.getD j "")) ∧ (rs.getD j "").length ≤ 900 := fun {j} hj => by
      have e : rs[j]? = some rs[j] := List.getElem?_eq_getElem hj
      have e2 : rs.getD j "" = rs[j] := by rw [List.getD_eq_getElem?_getD, e]; rfl
      rw [List.getElem?_map, e, e2]
      exact ⟨rfl, hrs _ (List.getElem_mem hj)⟩
    have lenE : ∀ {k : Int}, decide (V.int ((rs.map V.str).length : Nat) = V.int k) = decide ((rs.length : Int) = k) := fun {k} => by
      rw [List.length_map]
      by_cases h : (rs.length : Int) = k
      · rw [decide_eq_true h, decide_eq_true (congrArg V.int h)]
      · rw [decide_eq_false h, decide_eq_false fun z => h (V.int.inj z)]
    have e0 : readW x rs = readW x rs := rfl
    conv at e0 => rhs; unfold readW
    -- a name alone
    refine ⟨_, rfl, T.t_NAME_ALONE, aloneL.map V.str, rfl, .inr (T.q_NAME_ALONE H), rfl, rfl, _, rfl, ?_⟩
    by_cases c1 : inV (.str x) (aloneL.map V.str) = true ∧ rs.length = 1
    · rw [if_pos c1] at e0
      obtain ⟨hI, h1⟩ := c1
      show if inV (.str x) (aloneL.map V.str) = true then _ else _
      rw [hI]
      refine iteT ?_
      refine ⟨_, rfl, a, _, rfl, sq, rfl, _, rfl, ?_⟩
      rw [lenE, decide_eq_true (show (rs.length : Int) = 1 by omega)]
      refine iteT ?_
      obtain ⟨g0, b0⟩ := ix (j := 0) (by omega)
      refine ⟨_, rfl, _, rfl, a, _, _, _, rfl, rfl, ha, at_of (j := 0) rfl g0, rs.getD 0 "", rfl, by omega, ?_⟩
      by_cases n0 : isNameB (rs.getD 0 "") = true
      · rw [if_pos n0] at e0
        refine .inl ⟨n0, by show 2 ≤ sizeLine; decide, fun p4 np4 => ?_⟩
        exact qs _ e0 p4 _ (same_upd np4) (.inl (.inl upd_same))
      · rw [if_neg n0] at e0
        exact .inr ⟨Bool.eq_false_iff.mpr n0, qn e0⟩
    rw [if_neg c1] at e0
    apply and_no (b2 := decide ((rs.length : Int) = 1))
    case hb => exact fun z => c1 ⟨z.1, by have := of_decide_eq_true z.2; omega⟩
    case hU => exact fun z => ⟨_, rfl, a, _, rfl, sq, rfl, _, rfl, by rw [lenE]; exact z⟩
    case hV => exact fun z => iteF z
    -- alike
    refine ⟨_, rfl, rfl, _, rfl, ?_⟩
    by_cases calike : x = ("alike" : Str) ∧ rs.length = 2
    · rw [if_pos calike] at e0
      obtain ⟨hI, h1⟩ := calike
      subst hI
      rw [decide_eq_true (rfl : V.str ("alike" : Str) = V.str ("alike" : Str))]
      refine iteT ?_
      refine ⟨_, rfl, a, _, rfl, sq, rfl, _, rfl, ?_⟩
      rw [lenE, decide_eq_true (show (rs.length : Int) = 2 by omega)]
      refine iteT ?_
      obtain ⟨g0, b0⟩ := ix (j := 0) (by omega)
      obtain ⟨g1, b1⟩ := ix (j := 1) (by omega)
      refine ⟨_, rfl, _, rfl, a, _, _, _, rfl, rfl, ha, at_of (j := 0) rfl g0, rs.getD 0 "", rfl, by omega, ?_⟩
      by_cases n0 : isNameB (rs.getD 0 "") = true
      · rw [if_pos n0] at e0
        refine .inl ⟨n0, ?_⟩
        refine ⟨_, rfl, a, _, _, _, rfl, rfl, ha, at_of (j := 1) rfl g1, rs.getD 1 "", rfl, by omega, ?_⟩
        by_cases n1 : isNameB (rs.getD 1 "") = true
        · rw [if_pos n1] at e0
          refine .inl ⟨n1, by show 3 ≤ sizeLine; decide, fun p4 np4 => ?_⟩
          exact qs _ e0 p4 _ (same_upd np4) (.inl (.inl upd_same))
        · rw [if_neg n1] at e0
          exact .inr ⟨Bool.eq_false_iff.mpr n1, qn e0⟩
      · rw [if_neg n0] at e0
        exact .inr ⟨Bool.eq_false_iff.mpr n0, qn e0⟩
    rw [if_neg calike] at e0
    apply and_no (b2 := decide ((rs.length : Int) = 2))
    case hb => exact fun z => calike ⟨V.str.inj (of_decide_eq_true z.1), by have := of_decide_eq_true z.2; omega⟩
    case hU => exact fun z => ⟨_, rfl, a, _, rfl, sq, rfl, _, rfl, by rw [lenE]; exact z⟩
    case hV => exact fun z => iteF z
    -- short
    refine ⟨_, rfl, rfl, _, rfl, ?_⟩
    by_cases cshort : x = ("short" : Str) ∧ rs.length = 2
    · rw [if_pos cshort] at e0
      obtain ⟨hI, h1⟩ := cshort
      subst hI
      rw [decide_eq_true (rfl : V.str ("short" : Str) = V.str ("short" : Str))]
      refine iteT ?_
      refine ⟨_, rfl, a, _, rfl, sq, rfl, _, rfl, ?_⟩
      rw [lenE, decide_eq_true (show (rs.length : Int) = 2 by omega)]
      refine iteT ?_
      obtain ⟨g0, b0⟩ := ix (j := 0) (by omega)
      obtain ⟨g1, b1⟩ := ix (j := 1) (by omega)
      refine ⟨_, rfl, _, rfl, a, _, _, _, rfl, rfl, ha, at_of (j := 0) rfl g0, rs.getD 0 "", rfl, by omega, ?_⟩
      by_cases n0 : isNameB (rs.getD 0 "") = true
      · rw [if_pos n0] at e0
        refine .inl ⟨n0, ?_⟩
        refine ⟨_, rfl, a, _, _, _, rfl, rfl, ha, at_of (j := 1) rfl g1, rs.getD 1 "", 0, rfl, by omega, ?_⟩
        by_cases n1 : numIf (rs.getD 1 "") 0 = true
        · rw [if_pos n1] at e0
          refine .inl ⟨(numIf_t n1).1, (numIf_t n1).2, by show 3 ≤ sizeLine; decide, fun p4 np4 => ?_⟩
          exact qs _ e0 p4 _ (same_upd np4) (.inl (.inl upd_same))
        · rw [if_neg n1] at e0
          exact .inr ⟨numIf_f (Bool.eq_false_iff.mpr n1), qn e0⟩
      · rw [if_neg n0] at e0
        exact .inr ⟨Bool.eq_false_iff.mpr n0, qn e0⟩
    rw [if_neg cshort] at e0
    apply and_no (b2 := decide ((rs.length : Int) = 2))
    case hb => exact fun z => cshort ⟨V.str.inj (of_decide_eq_true z.1), by have := of_decide_eq_true z.2; omega⟩
    case hU => exact fun z => ⟨_, rfl, a, _, rfl, sq, rfl, _, rfl, by rw [lenE]; exact z⟩
    case hV => exact fun z => iteF z
    -- below
    refine ⟨_, rfl, rfl, _, rfl, ?_⟩
    by_cases cbelow : x = ("below" : Str) ∧ rs.length = 2
    · rw [if_pos cbelow] at e0
      obtain ⟨hI, h1⟩ := cbelow
      subst hI
      rw [decide_eq_true (rfl : V.str ("below" : Str) = V.str ("below" : Str))]
      refine iteT ?_
      refine ⟨_, rfl, a, _, rfl, sq, rfl, _, rfl, ?_⟩
      rw [lenE, decide_eq_true (show (rs.length : Int) = 2 by omega)]
      refine iteT ?_
      obtain ⟨g0, b0⟩ := ix (j := 0) (by omega)
      obtain ⟨g1, b1⟩ := ix (j := 1) (by omega)
      refine ⟨_, rfl, _, rfl, a, _, _, _, rfl, rfl, ha, at_of (j := 0) rfl g0, rs.getD 0 "", rfl, by omega, ?_⟩
      by_cases n0 : isNameB (rs.getD 0 "") = true
      · rw [if_pos n0] at e0
        refine .inl ⟨n0, ?_⟩
        refine ⟨_, rfl, a, _, _, _, rfl, rfl, ha, at_of (j := 1) rfl g1, rs.getD 1 "", 1, rfl, by omega, ?_⟩
        by_cases n1 : numIf (rs.getD 1 "") 1 = true
        · rw [if_pos n1] at e0
          refine .inl ⟨(numIf_t n1).1, (numIf_t n1).2, by show 3 ≤ sizeLine; decide, fun p4 np4 => ?_⟩
          exact qs _ e0 p4 _ (same_upd np4) (.inl (.inl upd_same))
        · rw [if_neg n1] at e0
          exact .inr ⟨numIf_f (Bool.eq_false_iff.mpr n1), qn e0⟩
      · rw [if_neg n0] at e0
        exact .inr ⟨Bool.eq_false_iff.mpr n0, qn e0⟩
    rw [if_neg cbelow] at e0
    apply and_no (b2 := decide ((rs.length : Int) = 2))
    case hb => exact fun z => cbelow ⟨V.str.inj (of_decide_eq_true z.1), by have := of_decide_eq_true z.2; omega⟩
    case hU => exact fun z => ⟨_, rfl, a, _, rfl, sq, rfl, _, rfl, by rw [lenE]; exact z⟩
    case hV => exact fun z => iteF z
    -- nearest
    refine ⟨_, rfl, rfl, _, rfl, ?_⟩
    have fin : tMkO T.X_NoText (sp_NoText_init T.X_NoText) [] (tCons (tC (V.int 0)) tNil) (L2.start ["word", "rest", "a", "item"] [V.str x, V.ref a]) H (fun cls d H' => E cls d H') := ⟨by decide, fun a na => made_no (qn e0) a na⟩
    by_cases hn : x = ("nearest" : Str)
    · rw [decide_eq_true (congrArg V.str hn)]
      refine iteT ?_
      refine ⟨_, rfl, a, _, rfl, sq, _, _, rfl, rfl, _, rfl, ?_⟩
      rw [List.length_map]
      by_cases h3 : 3 < rs.length
      · rw [decide_eq_true (show (3 : Int) < (rs.length : Nat) by omega)]
        refine iteT ?_
        obtain ⟨g2, b2⟩ := ix (j := rs.length - 2) (by omega)
        refine ⟨_, rfl, _, rfl, a, _, _, _, rfl, rfl, ha, at_neg (k := 2) (v := V.str (rs.getD (rs.length - 2) "")) rfl (by decide) (by rw [List.length_map]; omega) (by rw [List.length_map]; exact g2), rfl, _, rfl, ?_⟩
        rw [decide_eq_false fun z => hnear ⟨hn, h3, V.str.inj z⟩]
        exact iteF fin
      · rw [decide_eq_false (show ¬ (3 : Int) < (rs.length : Nat) by omega)]
        exact iteF (iteF fin)
    · rw [decide_eq_false fun z => hn (V.str.inj z)]
      exact iteF (iteF fin)

end
end K50
namespace K50
open PySem PySem.Spec PyProof.Rows L2 Gm
open C8 (Cal Met Mak pe_c pe_mt pe_mt0 pe_mk)
section
variable {P : Program} {w : World} {K : PySem.W.Frag} {mg : Str → Option Value} {base : Heap}
theorem sqL_same {K : PySem.W.Frag} {H H' : Hp} {a : Addr} {xs : List V} (e : Same H H') (h : SqL K H a xs) : SqL K H' a xs := by
  rcases h with (h | ⟨o, h⟩) | h
  · exact .inl (.inl (e _ _ h))
  · exact .inl (.inr ⟨o, e _ _ h⟩)
  · exact .inr h
def ptsOf (rs : List Str) : List Str := (rs.drop 1).take (rs.length - 3)
theorem cut_pts {rs : List Str} (h : 3 < rs.length) : cutV (rs.map V.str) (some 1) (some (-2)) = (ptsOf rs).map V.str := by
  unfold cutV ptsOf
  have e1 : HT.sIx (rs.map V.str).length 0 (some 1) = 1 := by
    show (if (1 : Int) < 0 then ((1 : Int) + ((rs.map V.str).length : Int)).toNat else min (1 : Int).toNat (rs.map V.str).length) = 1
    rw [if_neg (by decide), List.length_map]
    show min 1 rs.length = 1
    omega
  have e2 : HT.sIx (rs.map V.str).length (rs.map V.str).length (some (-2)) = rs.length - 2 := by
    show (if (-2 : Int) < 0 then ((-2 : Int) + ((rs.map V.str).length : Int)).toNat else min (-2 : Int).toNat (rs.map V.str).length) = rs.length - 2
    rw [if_pos (by decide), List.length_map]
    omega
  rw [e1, e2, List.map_take, List.map_drop]
  congr 1
def readN (rs : List Str) : Option Cmd :=
  if isNameB (rs.getD 0 "") = true then (if numIf (rs.getD (rs.length - 1) "") 1 = true then some (.near (rs.getD 0 "") ((ptsOf rs).map numV) (numV (rs.getD (rs.length - 1) ""))) else none) else none
def sp_read_words_N (K : PySem.W.Frag) (X : Addr) : Sp := fun vs H Q E => ∃ (a : Addr) (rs : List Str), vs = [.str "nearest", .ref a] ∧ SqL K H a (rs.map V.str) ∧ rs.length ≤ 900 ∧ (∀ r ∈ rs, r.length ≤ 900) ∧ isNear "nearest" rs ∧ (∀ r ∈ ptsOf rs, numIf r (-9999) = true) ∧
  (∀ c, readN rs = some c → ∀ p H', Same H H' → IsCmd K H' p c → Q (.ref p) H') ∧ (readN rs = none → ENo E X H)
theorem ok_read_words_N (T : Top K mg) (hN : base.NoSeer) (hT : P.given.tree = none) : FnOk P w K mg base (L2.CX P w) 4 T.a_read_words T.d_read_words ["word", "rest"] (sp_read_words_N K T.X_NoText) := by
  refine T.F_read_words.okX sc_read_words (fun vs H Q E h => ?_) (fun cdv A outer s H vs Q E hr h => ?_)
  · obtain ⟨a, rs, rfl, _⟩ := h
    rfl
  · obtain ⟨a, rs, rfl, ha, hl, hrs, ⟨_, h3, hsl⟩, hpts, qs, qn⟩ := h
    refine ⟨_, (pss_cons (ps_if (PW.pt (pw_and (pt_cmpR (op_inK K rfl) (pv 0) (pe_glob (v := V.ref T.t_NAME_ALONE) (by rfl) T.g_NAME_ALONE rfl) (by with_unfolding_all rfl)) (pw_and1 (pt_cmpR op_eq (pe_callB (lenS K rfl) (by rfl) T.z_len (by decide +kernel) (pa_cons (pv 1) pa_nil)) pe_int (nomark _)))))
      (pss_one (ps_ret (pe_tup (pa_cons (pv 0) (pa_cons (pe_call (E := E) (ok_checked_name T hN hT) (hr.mono (by decide)) (by rfl) T.g_checked_name T.F_checked_name.kp T.b_checked_name .nil (passes_call (takes_of rfl rfl rfl rfl) (fun _ _ _ _ h => h)) (pa_cons (pe_ix (ixL K rfl) (pv 1) pe_int (fun _ _ => rfl)) pa_nil)) pa_nil)))))
      pss_nil)
      (pss_cons (ps_if (PW.pt (pw_and (pt_cmpR op_eq (pv 0) pe_str (nomark _)) (pw_and1 (pt_cmpR op_eq (pe_callB (lenS K rfl) (by rfl) T.z_len (by decide +kernel) (pa_cons (pv 1) pa_nil)) pe_int (nomark _)))))
      (pss_one (ps_ret (pe_tup (pa_cons (pv 0) (pa_cons (pe_call (E := E) (ok_checked_name T hN hT) (hr.mono (by decide)) (by rfl) T.g_checked_name T.F_checked_name.kp T.b_checked_name .nil (passes_call (takes_of rfl rfl rfl rfl) (fun _ _ _ _ h => h)) (pa_cons (pe_ix (ixL K rfl) (pv 1) pe_int (fun _ _ => rfl)) pa_nil)) (pa_cons (pe_call (E := E) (ok_checked_name T hN hT) (hr.mono (by decide)) (by rfl) T.g_checked_name T.F_checked_name.kp T.b_checked_name .nil (passes_call (takes_of rfl rfl rfl rfl) (fun _ _ _ _ h => h)) (pa_cons (pe_ix (ixL K rfl) (pv 1) pe_int (fun _ _ => rfl)) pa_nil)) pa_nil))))))
      pss_nil)
      (pss_cons (ps_if (PW.pt (pw_and (pt_cmpR op_eq (pv 0) pe_str (nomark _)) (pw_and1 (pt_cmpR op_eq (pe_callB (lenS K rfl) (by rfl) T.z_len (by decide +kernel) (pa_cons (pv 1) pa_nil)) pe_int (nomark _)))))
      (pss_one (ps_ret (pe_tup (pa_cons (pv 0) (pa_cons (pe_call (E := E) (ok_checked_name T hN hT) (hr.mono (by decide)) (by rfl) T.g_checked_name T.F_checked_name.kp T.b_checked_name .nil (passes_call (takes_of rfl rfl rfl rfl) (fun _ _ _ _ h => h)) (pa_cons (pe_ix (ixL K rfl) (pv 1) pe_int (fun _ _ => rfl)) pa_nil)) (pa_cons (pe_call (E := E) (ok_read_number T hN hT) (hr.mono (by decide)) (by rfl) T.g_read_number T.F_read_number.kp T.b_read_number .nil (passes_call (takes_of rfl rfl rfl rfl) (fun _ _ _ _ h => h)) (pa_cons (pe_ix (ixL K rfl) (pv 1) pe_int (fun _ _ => rfl)) (pa_cons pe_int pa_nil))) pa_nil))))))
      pss_nil)
      (pss_cons (ps_if (PW.pt (pw_and (pt_cmpR op_eq (pv 0) pe_str (nomark _)) (pw_and1 (pt_cmpR op_eq (pe_callB (lenS K rfl) (by rfl) T.z_len (by decide +kernel) (pa_cons (pv 1) pa_nil)) pe_int (nomark _)))))
      (pss_one (ps_ret (pe_tup (pa_cons (pv 0) (pa_cons (pe_call (E := E) (ok_checked_name T hN hT) (hr.mono (by decide)) (by rfl) T.g_checked_name T.F_checked_name.kp T.b_checked_name .nil (passes_call (takes_of rfl rfl rfl rfl) (fun _ _ _ _ h => h)) (pa_cons (pe_ix (ixL K rfl) (pv 1) pe_int (fun _ _ => rfl)) pa_nil)) (pa_cons (pe_call (E := E) (ok_read_number T hN hT) (hr.mono (by decide)) (by rfl) T.g_read_number T.F_read_number.kp T.b_read_number .nil (passes_call (takes_of rfl rfl rfl rfl) (fun _ _ _ _ h => h)) (pa_cons (pe_ix (ixL K rfl) (pv 1) pe_int (fun _ _ => rfl)) (pa_cons pe_int pa_nil))) pa_nil))))))
      pss_nil)
      (pss_cons (ps_if (PW.pt (pw_and (pt_cmpR op_eq (pv 0) pe_str (nomark _)) (pw_and (pt_cmpR op_gt (pe_callB (lenS K rfl) (by rfl) T.z_len (by decide +kernel) (pa_cons (pv 1) pa_nil)) pe_int (nomark _)) (pw_and1 (pt_cmpR op_eq (pe_ix (ixL K rfl) (pv 1) (pe_un un_neg pe_int) (fun _ _ => rfl)) pe_str (nomark _))))))
      (pss_cons (ps_set (i := 2) sc_read_words.nd rfl (by first | exact .inl rfl | exact .inr rfl) (pe_callTy (tupK K rfl) (by rfl) T.z_tuple (by decide +kernel) (pa_cons (pe_lc (own := [("item", 3)]) (g := (gName 3)) (by rfl) sc_read_words.nd (piS K rfl (pe_slice (slLK K rfl) (pv 1) (po_some pe_int) (po_some (pe_un un_neg pe_int)))) ((by show BlkOk ["word", "rest", "a", "item"] (defScope s_read_words) _ _; exact blkOk_by (by decide +kernel))) (fun _ _ _ _ _ => (pg_name (i := 3) sc_read_words.nd rfl (by first | exact .inl rfl | exact .inr rfl))) (fun _ _ _ _ _ => pts_nil) (fun _ _ _ _ _ => (pe_c (cal_read_number_G T hN hT) hr (by decide) (by rfl) (pa_cons (pv 3) (pa_cons (pe_un un_neg (pe_glob (v := V.int 9999) (by rfl) T.g_MOST_NUMBER ⟨_, rfl⟩)) pa_nil))))) pa_nil)))
      (pss_one (ps_ret (pe_tup (pa_cons (pv 0) (pa_cons (pe_call (E := E) (ok_checked_name T hN hT) (hr.mono (by decide)) (by rfl) T.g_checked_name T.F_checked_name.kp T.b_checked_name .nil (passes_call (takes_of rfl rfl rfl rfl) (fun _ _ _ _ h => h)) (pa_cons (pe_ix (ixL K rfl) (pv 1) pe_int (fun _ _ => rfl)) pa_nil)) (pa_cons (pv 2) (pa_cons (pe_call (E := E) (ok_read_number T hN hT) (hr.mono (by decide)) (by rfl) T.g_read_number T.F_read_number.kp T.b_read_number .nil (passes_call (takes_of rfl rfl rfl rfl) (fun _ _ _ _ h => h)) (pa_cons (pe_ix (ixL K rfl) (pv 1) (pe_un un_neg pe_int) (fun _ _ => rfl)) (pa_cons pe_int pa_nil))) pa_nil))))))))
      pss_nil)
      (pss_one (ps_raise rfl (takes_of rfl rfl rfl rfl) (pmk_oex T.oX_NoText T.nI_NoText T.jI_NoText (ok_NoText_init T hN hT) (hr.mono (by decide)) T.b_NoText_init .nil pass0 (by rfl) T.gX_NoText (pa_cons pe_int pa_nil))))))))), ?_⟩
    have sq : Gm.Seq K H a (rs.map V.str) := .inl ha
    have ix : ∀ {j : Nat}, j < rs.length → (rs.map V.str)[j]? = some (.str (rs.getD j "")) ∧ (rs.getD j "").length ≤ 900 := fun {j} hj => by
      have e : rs[j]? = some rs[j] := List.getElem?_eq_getElem hj
      have e2 : rs.getD j "" = rs[j] := by rw [List.getD_eq_getElem?_getD, e]; rfl
      rw [List.getElem?_map, e, e2]
      exact ⟨rfl, hrs _ (List.getElem_mem hj)⟩
    have e0 : readN rs = readN rs := rfl
    conv at e0 => rhs; unfold readN
    refine ⟨_, rfl, T.t_NAME_ALONE, aloneL.map V.str, rfl, .inr (T.q_NAME_ALONE H), rfl, rfl, _, rfl, ?_⟩
    show if inV (.str ("nearest" : Str)) (aloneL.map V.str) = true then _ else _
    rw [show inV (.str ("nearest" : Str)) (aloneL.map V.str) = false by decide +kernel]
    refine iteF (iteF ?_)
    refine ⟨_, rfl, rfl, _, rfl, ?_⟩
    rw [decide_eq_false (p := V.str ("nearest" : Str) = V.str ("alike" : Str)) fun z => absurd (V.str.inj z) (by decide +kernel)]
    refine iteF (iteF ?_)
    refine ⟨_, rfl, rfl, _, rfl, ?_⟩
    rw [decide_eq_false (p := V.str ("nearest" : Str) = V.str ("short" : Str)) fun z => absurd (V.str.inj z) (by decide +kernel)]
    refine iteF (iteF ?_)
    refine ⟨_, rfl, rfl, _, rfl, ?_⟩
    rw [decide_eq_false (p := V.str ("nearest" : Str) = V.str ("below" : Str)) fun z => absurd (V.str.inj z) (by decide +kernel)]
    refine iteF (iteF ?_)
    refine ⟨_, rfl, rfl, _, rfl, ?_⟩
    rw [decide_eq_true (rfl : V.str ("nearest" : Str) = V.str ("nearest" : Str))]
    refine iteT ?_
    refine ⟨_, rfl, a, _, rfl, sq, _, _, rfl, rfl, _, rfl, ?_⟩
    rw [List.length_map, decide_eq_true (show (3 : Int) < (rs.length : Nat) by omega)]
    refine iteT ?_
    obtain ⟨g2, b2⟩ := ix (j := rs.length - 2) (by omega)
    refine ⟨_, rfl, _, rfl, a, _, _, _, rfl, rfl, ha, at_neg (k := 2) (v := V.str (rs.getD (rs.length - 2) "")) rfl (by decide) (by rw [List.length_map]; omega) (by rw [List.length_map]; exact g2), rfl, _, rfl, ?_⟩
    rw [decide_eq_true (congrArg V.str hsl)]
    refine iteT ?_
    -- the point
    refine ⟨_, rfl, 1, rfl, _, rfl, _, rfl, a, _, rfl, ha, fun p1 np1 => ?_⟩
    rw [show cutV (rs.map V.str) (some 1) (some (-2)) = (ptsOf rs).map V.str from cut_pts h3]
    have lp : (ptsOf rs).length ≤ 900 := by unfold ptsOf; rw [List.length_take, List.length_drop]; omega
    have s1 := same_upd (o := .lst ((ptsOf rs).map V.str)) np1
    have e1 : (upd H p1 (.lst ((ptsOf rs).map V.str))) p1 = some (.lst ((ptsOf rs).map V.str)) := upd_same
    generalize upd H p1 (.lst ((ptsOf rs).map V.str)) = H1 at s1 e1 ⊢
    refine ⟨p1, _, rfl, .inl (.inl (.inl e1)), fun J G W hG D hD => ?_⟩
    refine lc_all W hD (by rw [List.length_map]; omega) (fun H2 s2 => hG H2 fun b _ o => s2 b o) (fun i v _ => ∃ z, ((ptsOf rs).map numV)[i]? = some z ∧ v = .int z) (fun _ _ _ _ _ _ _ h => h) ?_ gm_name ?_
    · rintro i y H2 H2' acc Ko hi s2 eD ⟨rfl, ey⟩ kk
      rw [List.getElem?_map] at ey
      obtain ⟨w, ew, rfl⟩ := Option.map_eq_some_iff.mp ey
      have hw := hpts w (List.mem_of_getElem? ew)
      have hwl : w.length ≤ 900 := hrs w (List.mem_of_mem_drop (List.mem_of_mem_take (List.mem_of_getElem? ew)))
      have nw := numIf_t hw
      refine ⟨rfl, ?_⟩
      exact ⟨_, rfl, _, rfl, w, -9999, rfl, by omega, nw.1, nw.2, kk _ _ (Same.refl _) ⟨numV w, by rw [List.getElem?_map, ew]; rfl, rfl⟩⟩
    intro H2 l2 s2 eD hpl
    have el := ints_list (by rw [List.length_map, List.length_map]) hpl
    subst el
    have s12 := s1.trans s2
    refine ⟨D, _, rfl, .inl ⟨.inl (.inl eD), fun t nt => ?_⟩⟩
    have s3 := same_upd (o := .tup (((ptsOf rs).map numV).map V.int)) nt
    have et : SqT K (upd H2 t (.tup (((ptsOf rs).map numV).map V.int))) t (((ptsOf rs).map numV).map V.int) := .inl (.inl upd_same)
    generalize upd H2 t (.tup (((ptsOf rs).map numV).map V.int)) = H3 at s3 et ⊢
    have s03 := s12.trans s3
    have ha3 : SqL K H3 a (rs.map V.str) := sqL_same s03 ha
    obtain ⟨g0, b0⟩ := ix (j := 0) (by omega)
    obtain ⟨g1, b1⟩ := ix (j := rs.length - 1) (by omega)
    refine ⟨_, rfl, _, rfl, a, _, _, _, rfl, rfl, ha3, at_of (j := 0) rfl g0, rs.getD 0 "", rfl, by omega, ?_⟩
    by_cases n0 : isNameB (rs.getD 0 "") = true
    · rw [if_pos n0] at e0
      refine .inl ⟨n0, ?_⟩
      refine ⟨_, rfl, _, rfl, _, rfl, a, _, _, _, rfl, rfl, ha3, at_neg (k := 1) (v := V.str (rs.getD (rs.length - 1) "")) rfl (by decide) (by rw [List.length_map]; omega) (by rw [List.length_map]; exact g1), rs.getD (rs.length - 1) "", 1, rfl, by omega, ?_⟩
      by_cases n1 : numIf (rs.getD (rs.length - 1) "") 1 = true
      · rw [if_pos n1] at e0
        refine .inl ⟨(numIf_t n1).1, (numIf_t n1).2, by show 4 ≤ sizeLine; decide, fun p4 np4 => ?_⟩
        exact qs _ e0 p4 _ (s03.trans (same_upd np4)) ⟨t, .inl (.inl upd_same), Same.seqT (same_upd np4) et⟩
      · rw [if_neg n1] at e0
        exact .inr ⟨numIf_f (Bool.eq_false_iff.mpr n1), (qn e0).at s03⟩
    · rw [if_neg n0] at e0
      exact .inr ⟨Bool.eq_false_iff.mpr n0, (qn e0).at s03⟩

end
end K50
namespace K50
open PySem PySem.Spec PyProof.Rows L2 Gm
open C8 (Cal Met Mak pe_c pe_mt pe_mt0 pe_mk)
section
variable {P : Program} {w : World} {K : PySem.W.Frag} {mg : Str → Option Value} {base : Heap}
/-! ### a point of one bad number -/
def sp_read_words_X (K : PySem.W.Frag) (X : Addr) : Sp := fun vs H Q E => ∃ (a : Addr) (rs : List Str) (r : Str), vs = [.str "nearest", .ref a] ∧ SqL K H a (rs.map V.str) ∧ rs.length ≤ 900 ∧ (∀ r ∈ rs, r.length ≤ 900) ∧ isNear "nearest" rs ∧ ptsOf rs = [r] ∧ numIf r (-9999) = false ∧ ENo E X H
theorem ok_read_words_X (T : Top K mg) (hN : base.NoSeer) (hT : P.given.tree = none) : FnOk P w K mg base (L2.CX P w) 4 T.a_read_words T.d_read_words ["word", "rest"] (sp_read_words_X K T.X_NoText) := by
  refine T.F_read_words.okX sc_read_words (fun vs H Q E h => ?_) (fun cdv A outer s H vs Q E hr h => ?_)
  · obtain ⟨a, rs, r, rfl, _⟩ := h
    rfl
  · obtain ⟨a, rs, r, rfl, ha, hl, hrs, ⟨_, h3, hsl⟩, hpt, hbad, en⟩ := h
    refine ⟨_, (pss_cons (ps_if (PW.pt (pw_and (pt_cmpR (op_inK K rfl) (pv 0) (pe_glob (v := V.ref T.t_NAME_ALONE) (by rfl) T.g_NAME_ALONE rfl) (by with_unfolding_all rfl)) (pw_and1 (pt_cmpR op_eq (pe_callB (lenS K rfl) (by rfl) T.z_len (by decide +kernel) (pa_cons (pv 1) pa_nil)) pe_int (nomark _)))))
      (pss_one (ps_ret (pe_tup (pa_cons (pv 0) (pa_cons (pe_call (E := E) (ok_checked_name T hN hT) (hr.mono (by decide)) (by rfl) T.g_checked_name T.F_checked_name.kp T.b_checked_name .nil (passes_call (takes_of rfl rfl rfl rfl) (fun _ _ _ _ h => h)) (pa_cons (pe_ix (ixL K rfl) (pv 1) pe_int (fun _ _ => rfl)) pa_nil)) pa_nil)))))
      pss_nil)
      (pss_cons (ps_if (PW.pt (pw_and (pt_cmpR op_eq (pv 0) pe_str (nomark _)) (pw_and1 (pt_cmpR op_eq (pe_callB (lenS K rfl) (by rfl) T.z_len (by decide +kernel) (pa_cons (pv 1) pa_nil)) pe_int (nomark _)))))
      (pss_one (ps_ret (pe_tup (pa_cons (pv 0) (pa_cons (pe_call (E := E) (ok_checked_name T hN hT) (hr.mono (by decide)) (by rfl) T.g_checked_name T.F_checked_name.kp T.b_checked_name .nil (passes_call (takes_of rfl rfl rfl rfl) (fun _ _ _ _ h => h)) (pa_cons (pe_ix (ixL K rfl) (pv 1) pe_int (fun _ _ => rfl)) pa_nil)) (pa_cons (pe_call (E := E) (ok_checked_name T hN hT) (hr.mono (by decide)) (by rfl) T.g_checked_name T.F_checked_name.kp T.b_checked_name .nil (passes_call (takes_of rfl rfl rfl rfl) (fun _ _ _ _ h => h)) (pa_cons (pe_ix (ixL K rfl) (pv 1) pe_int (fun _ _ => rfl)) pa_nil)) pa_nil))))))
      pss_nil)
      (pss_cons (ps_if (PW.pt (pw_and (pt_cmpR op_eq (pv 0) pe_str (nomark _)) (pw_and1 (pt_cmpR op_eq (pe_callB (lenS K rfl) (by rfl) T.z_len (by decide +kernel) (pa_cons (pv 1) pa_nil)) pe_int (nomark _)))))
      (pss_one (ps_ret (pe_tup (pa_cons (pv 0) (pa_cons (pe_call (E := E) (ok_checked_name T hN hT) (hr.mono (by decide)) (by rfl) T.g_checked_name T.F_checked_name.kp T.b_checked_name .nil (passes_call (takes_of rfl rfl rfl rfl) (fun _ _ _ _ h => h)) (pa_cons (pe_ix (ixL K rfl) (pv 1) pe_int (fun _ _ => rfl)) pa_nil)) (pa_cons (pe_call (E := E) (ok_read_number T hN hT) (hr.mono (by decide)) (by rfl) T.g_read_number T.F_read_number.kp T.b_read_number .nil (passes_call (takes_of rfl rfl rfl rfl) (fun _ _ _ _ h => h)) (pa_cons (pe_ix (ixL K rfl) (pv 1) pe_int (fun _ _ => rfl)) (pa_cons pe_int pa_nil))) pa_nil))))))
      pss_nil)
      (pss_cons (ps_if (PW.pt (pw_and (pt_cmpR op_eq (pv 0) pe_str (nomark _)) (pw_and1 (pt_cmpR op_eq (pe_callB (lenS K rfl) (by rfl) T.z_len (by decide +kernel) (pa_cons (pv 1) pa_nil)) pe_int (nomark _)))))
      (pss_one (ps_ret (pe_tup (pa_cons (pv 0) (pa_cons (pe_call (E := E) (ok_checked_name T hN hT) (hr.mono (by decide)) (by rfl) T.g_checked_name T.F_checked_name.kp T.b_checked_name .nil (passes_call (takes_of rfl rfl rfl rfl) (fun _ _ _ _ h => h)) (pa_cons (pe_ix (ixL K rfl) (pv 1) pe_int (fun _ _ => rfl)) pa_nil)) (pa_cons (pe_call (E := E) (ok_read_number T hN hT) (hr.mono (by decide)) (by rfl) T.g_read_number T.F_read_number.kp T.b_read_number .nil (passes_call (takes_of rfl rfl rfl rfl) (fun _ _ _ _ h => h)) (pa_cons (pe_ix (ixL K rfl) (pv 1) pe_int (fun _ _ => rfl)) (pa_cons pe_int pa_nil))) pa_nil))))))
      pss_nil)
      (pss_cons (ps_if (PW.pt (pw_and (pt_cmpR op_eq (pv 0) pe_str (nomark _)) (pw_and (pt_cmpR op_gt (pe_callB (lenS K rfl) (by rfl) T.z_len (by decide +kernel) (pa_cons (pv 1) pa_nil)) pe_int (nomark _)) (pw_and1 (pt_cmpR op_eq (pe_ix (ixL K rfl) (pv 1) (pe_un un_neg pe_int) (fun _ _ => rfl)) pe_str (nomark _))))))
      (pss_cons (ps_set (i := 2) sc_read_words.nd rfl (by first | exact .inl rfl | exact .inr rfl) (pe_callTy (tupK K rfl) (by rfl) T.z_tuple (by decide +kernel) (pa_cons (pe_lcX (E := E) (own := [("item", 3)]) (g := (gName 3)) rfl rfl (takes_of rfl rfl rfl rfl) (fun _ _ _ _ h => h) (by rfl) sc_read_words.nd (piS K rfl (pe_slice (slLK K rfl) (pv 1) (po_some pe_int) (po_some (pe_un un_neg pe_int)))) ((by show BlkOk ["word", "rest", "a", "item"] (defScope s_read_words) _ _; exact blkOk_by (by decide +kernel))) (fun _ _ _ _ _ _ _ => (pg_name (i := 3) sc_read_words.nd rfl (by first | exact .inl rfl | exact .inr rfl))) (fun _ _ _ _ _ _ _ => pts_nil) (fun _ _ _ _ _ _ pass => (pe_call (E := E) (ok_read_number T hN hT) (hr.mono (by decide)) (by rfl) T.g_read_number T.F_read_number.kp T.b_read_number .nil pass (pa_cons (pv 3) (pa_cons (pe_un un_neg (pe_glob (v := V.int 9999) (by rfl) T.g_MOST_NUMBER ⟨_, rfl⟩)) pa_nil))))) pa_nil)))
      (pss_one (ps_ret (pe_tup (pa_cons (pv 0) (pa_cons (pe_call (E := E) (ok_checked_name T hN hT) (hr.mono (by decide)) (by rfl) T.g_checked_name T.F_checked_name.kp T.b_checked_name .nil (passes_call (takes_of rfl rfl rfl rfl) (fun _ _ _ _ h => h)) (pa_cons (pe_ix (ixL K rfl) (pv 1) pe_int (fun _ _ => rfl)) pa_nil)) (pa_cons (pv 2) (pa_cons (pe_call (E := E) (ok_read_number T hN hT) (hr.mono (by decide)) (by rfl) T.g_read_number T.F_read_number.kp T.b_read_number .nil (passes_call (takes_of rfl rfl rfl rfl) (fun _ _ _ _ h => h)) (pa_cons (pe_ix (ixL K rfl) (pv 1) (pe_un un_neg pe_int) (fun _ _ => rfl)) (pa_cons pe_int pa_nil))) pa_nil))))))))
      pss_nil)
      (pss_one (ps_raise rfl (takes_of rfl rfl rfl rfl) (pmk_oex T.oX_NoText T.nI_NoText T.jI_NoText (ok_NoText_init T hN hT) (hr.mono (by decide)) T.b_NoText_init .nil pass0 (by rfl) T.gX_NoText (pa_cons pe_int pa_nil))))))))), ?_⟩
    have sq : Gm.Seq K H a (rs.map V.str) := .inl ha
    have ix : ∀ {j : Nat}, j < rs.length → (rs.map V.str)[j]? = some (.str (rs.getD j "")) ∧ (rs.getD j "").length ≤ 900 := fun {j} hj => by
      have e : rs[j]? = some rs[j] := List.getElem?_eq_getElem hj
      have e2 : rs.getD j "" = rs[j] := by rw [List.getD_eq_getElem?_getD, e]; rfl
      rw [List.getElem?_map, e, e2]
      exact ⟨rfl, hrs _ (List.getElem_mem hj)⟩
    refine ⟨_, rfl, T.t_NAME_ALONE, aloneL.map V.str, rfl, .inr (T.q_NAME_ALONE H), rfl, rfl, _, rfl, ?_⟩
    show if inV (.str ("nearest" : Str)) (aloneL.map V.str) = true then _ else _
    rw [show inV (.str ("nearest" : Str)) (aloneL.map V.str) = false by decide +kernel]
    refine iteF (iteF ?_)
    refine ⟨_, rfl, rfl, _, rfl, ?_⟩
    rw [decide_eq_false (p := V.str ("nearest" : Str) = V.str ("alike" : Str)) fun z => absurd (V.str.inj z) (by decide +kernel)]
    refine iteF (iteF ?_)
    refine ⟨_, rfl, rfl, _, rfl, ?_⟩
    rw [decide_eq_false (p := V.str ("nearest" : Str) = V.str ("short" : Str)) fun z => absurd (V.str.inj z) (by decide +kernel)]
    refine iteF (iteF ?_)
    refine ⟨_, rfl, rfl, _, rfl, ?_⟩
    rw [decide_eq_false (p := V.str ("nearest" : Str) = V.str ("below" : Str)) fun z => absurd (V.str.inj z) (by decide +kernel)]
    refine iteF (iteF ?_)
    refine ⟨_, rfl, rfl, _, rfl, ?_⟩
    rw [decide_eq_true (rfl : V.str ("nearest" : Str) = V.str ("nearest" : Str))]
    refine iteT ?_
    refine ⟨_, rfl, a, _, rfl, sq, _, _, rfl, rfl, _, rfl, ?_⟩
    rw [List.length_map, decide_eq_true (show (3 : Int) < (rs.length : Nat) by omega)]
    refine iteT ?_
    obtain ⟨g2, b2⟩ := ix (j := rs.length - 2) (by omega)
    refine ⟨_, rfl, _, rfl, a, _, _, _, rfl, rfl, ha, at_neg (k := 2) (v := V.str (rs.getD (rs.length - 2) "")) rfl (by decide) (by rw [List.length_map]; omega) (by rw [List.length_map]; exact g2), rfl, _, rfl, ?_⟩
    rw [decide_eq_true (congrArg V.str hsl)]
    refine iteT ?_
    -- the point
    refine ⟨_, rfl, 1, rfl, _, rfl, _, rfl, a, _, rfl, ha, fun p1 np1 => ?_⟩
    rw [show cutV (rs.map V.str) (some 1) (some (-2)) = (ptsOf rs).map V.str from cut_pts h3, hpt]
    have s1 := same_upd (o := .lst ([r].map V.str)) np1
    have e1 : (upd H p1 (.lst ([r].map V.str))) p1 = some (.lst ([r].map V.str)) := upd_same
    generalize upd H p1 (.lst ([r].map V.str)) = H1 at s1 e1 ⊢
    refine ⟨p1, _, rfl, .inl (.inl (.inl e1)), fun J G W hG D hD => ?_⟩
    refine lc_all W hD (by show 1 ≤ 1000; decide) (fun H2 s2 => hG H2 fun b _ o => s2 b o) (fun i v _ => False) (fun _ _ _ _ _ _ _ h => h) ?_ gm_name ?_
    · rintro i y H2 H2' acc Ko hi s2 eD ⟨rfl, ey⟩ kk
      have hr1 : r.length ≤ 900 := hrs r (by
        have : r ∈ ptsOf rs := by rw [hpt]; exact List.mem_singleton.mpr rfl
        exact List.mem_of_mem_drop (List.mem_of_mem_take this))
      have ey : [V.str r][i]? = some y := ey
      have hi0 : i = 0 := by have : i < 1 := hi; omega
      subst hi0
      cases ey
      refine ⟨rfl, ?_⟩
      exact ⟨_, rfl, _, rfl, r, -9999, rfl, by omega, .inr ⟨numIf_f hbad, en.at (s1.trans s2)⟩⟩
    intro H2 l2 s2 eD hpl
    cases hpl with
    | cons h _ => exact h.elim

end
end K50
namespace K50
open PySem PySem.Spec PyProof.Rows L2 Gm
open C8 (Cal Met Mak pe_c pe_mt pe_mt0 pe_mk)
section
variable {P : Program} {w : World} {K : PySem.W.Frag} {mg : Str → Option Value} {base : Heap}
/-! ### read_line -/
theorem cut_tail {x : V} {xs : List V} : cutV (x :: xs) (some 1) none = xs := by
  unfold cutV
  have e1 : HT.sIx (x :: xs).length 0 (some 1) = 1 := by
    show (if (1 : Int) < 0 then ((1 : Int) + ((x :: xs).length : Int)).toNat else min (1 : Int).toNat (x :: xs).length) = 1
    rw [if_neg (by decide), List.length_cons]
    show min 1 (xs.length + 1) = 1
    omega
  rw [e1, HT.sIx_none]
  exact List.take_of_length_le (by rw [List.length_drop]; exact Nat.le_refl _)
def sp_read_words_ALL (K : PySem.W.Frag) (X : Addr) : Sp := fun vs H Q E => (sp_read_words K X vs H Q E ∨ sp_read_words_N K X vs H Q E) ∨ sp_read_words_X K X vs H Q E
theorem ok_read_words_ALL (T : Top K mg) (hN : base.NoSeer) (hT : P.given.tree = none) : FnOk P w K mg base (L2.CX P w) 4 T.a_read_words T.d_read_words ["word", "rest"] (sp_read_words_ALL K T.X_NoText) := fn_or (fn_or (ok_read_words T hN hT) (ok_read_words_N T hN hT)) (ok_read_words_X T hN hT)
def sp_read_line (K : PySem.W.Frag) (CG CL XM XR X : Addr) : Sp := fun vs H Q E => ∃ v, vs = [v] ∧
  (((NoStr K H v ∨ (∃ s : Str, v = .str s ∧ 2000 < s.length ∧ s.length ≤ 3000) ∨ ∃ s : Str, v = .str s ∧ s.length ≤ 900 ∧ isLineB s = false) ∧ ENo E X H) ∨ ∃ s : Str, v = .str s ∧ s.length ≤ 900 ∧ isLineB s = true ∧
    ((((Txt.words s).length = 0 ∨ Txt.startswith s ("#" : Str) = true) ∧ ∀ p H', Same H H' → SqT K H' p [.str "empty"] → Q (.ref p) H') ∨
     (Txt.startswith s ("#" : Str) = false ∧ ∃ (w0 : Str) (rest : List Str), Txt.words s = w0 :: rest ∧ ((w0 = ("let" : Str) ∧ ∀ H1, Same H H1 → sp_read_let K CG CL XM XR X [.str s] H1 Q E) ∨
       (w0 ≠ ("let" : Str) ∧ ∀ H1 a, Same H H1 → SqL K H1 a (rest.map V.str) → sp_read_words_ALL K X [.str w0, .ref a] H1 Q E)))))
theorem ok_read_line (T : Top K mg) (hN : base.NoSeer) (hT : P.given.tree = none) : FnOk P w K mg base (L2.CX P w) 49 T.a_read_line T.d_read_line ["line"] (sp_read_line K T.C_Grid T.C_Lattice T.X_Malformed T.X_Refused T.X_NoText) := by
  refine T.F_read_line.okX sc_read_line (fun vs H Q E h => ?_) (fun cdv A outer s H vs Q E hr h => ?_)
  · obtain ⟨v, rfl, _⟩ := h
    rfl
  · obtain ⟨v, rfl, h⟩ := h
    have hz : 100000 ≤ sizeLine := by decide
    refine ⟨_, (pss_cons (ps_if (pt_not (pt_val (pe_c (cal_is_line T hN hT) hr (by decide) (by rfl) (pa_cons (pv 0) pa_nil))))
      (pss_one (ps_raise rfl (takes_of rfl rfl rfl rfl) (pmk_oex T.oX_NoText T.nI_NoText T.jI_NoText (ok_NoText_init T hN hT) (hr.mono (by decide)) T.b_NoText_init .nil pass0 (by rfl) T.gX_NoText (pa_cons pe_int pa_nil))))
      pss_nil)
      (pss_cons (ps_set (i := 1) sc_read_line.nd rfl (by first | exact .inl rfl | exact .inr rfl) (pe_words (pv 0)))
      (pss_cons (ps_if (PW.pt (pw_or (pt_cmpR op_eq (pe_callB (lenS K rfl) (by rfl) T.z_len (by decide +kernel) (pa_cons (pv 1) pa_nil)) pe_int (nomark _)) (pw_or1 (pt_val (pe_m1 PySem.F.slot_str_startswith PySem.F.type_str_startswith mt_startswith (pv 0) pe_str)))))
      (pss_one (ps_ret (pe_tup (pa_cons pe_str pa_nil))))
      pss_nil)
      (pss_cons (ps_if (pt_cmpR op_eq (pe_ix (ixL K rfl) (pv 1) pe_int (fun _ _ => rfl)) pe_str (nomark _))
      (pss_one (ps_ret (pe_call (E := E) (ok_read_let T hN hT) (hr.mono (by decide)) (by rfl) T.g_read_let T.F_read_let.kp T.b_read_let .nil (passes_call (takes_of rfl rfl rfl rfl) (fun _ _ _ _ h => h)) (pa_cons (pv 0) pa_nil))))
      pss_nil)
      (pss_one (ps_ret (pe_call (E := E) (ok_read_words_ALL T hN hT) (hr.mono (by decide)) (by rfl) T.g_read_words T.F_read_words.kp T.b_read_words .nil (passes_call (takes_of rfl rfl rfl rfl) (fun _ _ _ _ h => h)) (pa_cons (pe_ix (ixL K rfl) (pv 1) pe_int (fun _ _ => rfl)) (pa_cons (pe_slice (slLK K rfl) (pv 1) (po_some pe_int) po_none) pa_nil))))))))), ?_⟩
    rcases h with ⟨hb, en⟩ | ⟨x, rfl, hx, hL, h⟩
    · rcases hb with hs | ⟨x, rfl, h2, h3⟩ | ⟨x, rfl, hx, hf⟩
      · refine ⟨_, rfl, v, rfl, .inl ⟨hs, ?_⟩⟩
        refine ⟨_, rfl, ?_⟩
        refine iteT ?_
        exact ⟨by decide, fun a na => made_no en a na⟩
      · refine ⟨_, rfl, .str x, rfl, .inr (.inl ⟨x, rfl, h2, h3, ?_⟩)⟩
        refine ⟨_, rfl, ?_⟩
        refine iteT ?_
        exact ⟨by decide, fun a na => made_no en a na⟩
      · refine ⟨_, rfl, .str x, rfl, .inr (.inr ⟨x, rfl, hx, fun H1 s1 => ?_⟩)⟩
        refine ⟨_, rfl, ?_⟩
        rw [hf]
        refine iteT ?_
        exact ⟨by decide, fun a na => made_no (en.at s1) a na⟩
    refine ⟨_, rfl, .str x, rfl, .inr (.inr ⟨x, rfl, hx, fun H1 s1 => ?_⟩)⟩
    refine ⟨_, rfl, ?_⟩
    rw [hL]
    refine iteF ?_
    refine ⟨_, rfl, ⟨x, rfl⟩, x, rfl, rfl, by omega, fun p2 np2 => ?_⟩
    obtain ⟨ws, hws⟩ : ∃ ws, Txt.words x = ws := ⟨_, rfl⟩
    rw [hws] at h ⊢
    have s2 := same_upd (o := .lst (ws.map V.str)) np2
    have e2 : (upd H1 p2 (.lst (ws.map V.str))) p2 = some (.lst (ws.map V.str)) := upd_same
    generalize upd H1 p2 (.lst (ws.map V.str)) = H2 at s2 e2 ⊢
    have s12 := s1.trans s2
    refine ⟨_, rfl, p2, _, rfl, .inl (.inl (.inl e2)), rfl, _, rfl, ?_⟩
    rw [List.length_map]
    rcases h with ⟨h0, q⟩ | ⟨hs, w0, rest, rfl, h⟩
    · have fin : ∀ (t : Addr), H2 t = none → Q (.ref t) (upd H2 t (.tup [V.str "empty"])) := fun t nt => q t _ (s12.trans (same_upd nt)) (.inl (.inl upd_same))
      by_cases hl : ws.length = 0
      · rw [decide_eq_true (show V.int (ws.length : Nat) = V.int 0 by rw [hl]; rfl)]
        refine iteT (iteT ?_)
        exact ⟨by show 1 ≤ sizeLine; decide, fin⟩
      · rw [decide_eq_false fun z => hl (by have := V.int.inj z; omega)]
        refine iteF ?_
        refine ⟨_, rfl, ⟨x, rfl⟩, x, _, rfl, rfl, _, rfl, ?_⟩
        rw [show Txt.startswith x ("#" : Str) = true from h0.resolve_left hl]
        refine iteT ?_
        exact ⟨by show 1 ≤ sizeLine; decide, fin⟩
    rw [decide_eq_false fun z => by have := V.int.inj z; rw [List.length_cons] at this; omega]
    refine iteF ?_
    refine ⟨_, rfl, ⟨x, rfl⟩, x, _, rfl, rfl, _, rfl, ?_⟩
    rw [hs]
    refine iteF ?_
    refine ⟨_, rfl, p2, _, _, _, rfl, rfl, .inl (.inl e2), at_of (j := 0) rfl rfl, rfl, _, rfl, ?_⟩
    rcases h with ⟨hl, h⟩ | ⟨hl, h⟩
    · rw [decide_eq_true (congrArg V.str hl)]
      refine iteT ?_
      exact ⟨_, rfl, h H2 s12⟩
    · rw [decide_eq_false fun z => hl (V.str.inj z)]
      refine iteF ?_
      refine ⟨_, rfl, p2, _, _, _, rfl, rfl, .inl (.inl e2), at_of (j := 0) rfl rfl, ?_⟩
      refine ⟨_, rfl, 1, rfl, ?_⟩
      dsimp only [tNoPart]
      refine ⟨p2, _, rfl, .inl (.inl e2), fun p3 np3 => ?_⟩
      refine h _ p3 (s12.trans (same_upd np3)) (.inl (.inl ?_))
      rw [upd_same, List.map_cons, cut_tail]

end
end K50
namespace K50
open PySem PySem.Spec PyProof.Rows L2 Gm
open C8 (Cal Met Mak pe_c pe_mt pe_mt0 pe_mk)
section
variable {P : Program} {w : World} {K : PySem.W.Frag} {mg : Str → Option Value} {base : Heap}
/-! ### the law's numbers -/
/-- a list of whole numbers -/
def NumAt (H : Hp) (p : Addr) : Prop := ∃ ns : List Int, H p = some (.lst (ns.map V.int)) ∧ ns.length ≤ 4000
theorem NumAt.same {H H' : Hp} {p : Addr} (s : Same H H') (h : NumAt H p) : NumAt H' p := let ⟨a, e, l⟩ := h; ⟨a, s _ _ e, l⟩
theorem NumAt.ref {H : Hp} {p : Addr} (h : NumAt H p) : ∃ l, H p = some (.lst l) := let ⟨_, e, _⟩ := h; ⟨_, e⟩
theorem off_refl {p : Addr} {H : Hp} : Off p H H := fun _ _ _ e => e
theorem small4000 {n : Nat} (h : n ≤ 4000) : n < sizeLine := Nat.lt_of_le_of_lt h (by decide)
def sp_law_next : Sp := fun vs H Q _ => ∃ (p : Addr) (m : Nat), vs = [.ref p, .int m] ∧ NumAt H p ∧ 0 < m ∧ ∀ (r : Nat) H', r < m → Off p H H' → NumAt H' p → Q (.int r) H'
theorem ok_law_next (T : Top K mg) (hN : base.NoSeer) (hT : P.given.tree = none) : FnOk P w K mg base CX0 1 T.a_law_next T.d_law_next ["numbers", "many"] sp_law_next := by
  refine T.F_law_next.ok sc_law_next (fun vs H Q E h => ?_) (fun cdv A outer s H vs Q E hr h => ?_)
  · obtain ⟨p, m, rfl, _⟩ := h
    rfl
  · obtain ⟨p, m, rfl, ⟨ns, e, hl⟩, hm, q⟩ := h
    refine ⟨_, (pss_cons (ps_if (pt_cmpR op_eq (pe_callB (lenS K rfl) (by rfl) T.z_len (by decide +kernel) (pa_cons (pv 0) pa_nil)) pe_int (nomark _))
      (pss_one (ps_ret pe_int))
      pss_nil)
      (pss_one (ps_ret (pe_op op_mod (pe_bm PySem.F.plainAttrs_list PySem.F.slot_list_pop PySem.F.type_list_pop mt_popAt (pv 0) (pa_cons pe_int pa_nil)) (pv 1))))), ?_⟩
    refine ⟨_, rfl, p, _, rfl, .inl (.inl (.inl e)), rfl, _, rfl, ?_⟩
    cases ns with
    | nil =>
      rw [show decide (V.int (([] : List Int).map V.int).length = V.int 0) = true from rfl]
      refine iteT ?_
      exact q 0 H hm off_refl ⟨[], e, by decide⟩
    | cons z zs =>
      rw [show decide (V.int (((z :: zs).map V.int).length : Int) = V.int 0) = false from decide_eq_false fun h => by
        have := V.int.inj h
        rw [List.length_map, List.length_cons] at this
        omega]
      refine iteF ?_
      have hi : seqIndex? 0 ((z :: zs).map V.int).length = some 0 := by
        rw [List.length_map, List.length_cons]
        unfold seqIndex?
        simp
        try omega
      refine ⟨_, rfl, .inl ⟨rfl, _, .inl (.inl e)⟩, p, _, 0, 0, .int z, rfl, rfl, e, by decide, by decide, hi, rfl, ?_⟩
      refine ⟨_, rfl, z, (m : Int), rfl, rfl, by show (0 : Int) < m; omega, ?_⟩
      have hz : (z % (m : Int)) = ((z % (m : Int)).toNat : Int) := by
        have := Int.emod_nonneg z (show (m : Int) ≠ 0 by omega)
        omega
      show Q (V.int (z % (m : Int))) _
      rw [hz]
      refine q _ _ ?_ Off.upd ⟨zs, by rw [upd_same]; rfl, by rw [List.length_cons] at hl; omega⟩
      have := Int.emod_lt_of_pos z (show (0 : Int) < m by omega)
      omega
theorem cal_law_next (T : Top K mg) (hN : base.NoSeer) (hT : P.given.tree = none) : Cal P w K mg base 1 "_law_next" sp_law_next [] := ⟨⟨_, _, _, [], ok_law_next T hN hT, T.g_law_next, T.F_law_next.kp, T.b_law_next, .nil⟩⟩
def sp_law_numbers (K : PySem.W.Frag) : Sp := fun vs H Q _ => ∃ (a : Addr) (ns : List Int), vs = [.ref a] ∧ SqL K H a (ns.map V.int) ∧ ns.length ≤ 63 ∧ ∀ p H', Same H H' → H p = none → NumAt H' p → Q (.ref p) H'
theorem ok_law_numbers (T : Top K mg) (hN : base.NoSeer) (hT : P.given.tree = none) : FnOk P w K mg base CX0 1 T.a_law_numbers T.d_law_numbers ["script"] (sp_law_numbers K) := by
  refine T.F_law_numbers.ok sc_law_numbers (fun vs H Q E h => ?_) (fun cdv A outer s H vs Q E hr h => ?_)
  · obtain ⟨a, ns, rfl, _⟩ := h
    rfl
  · obtain ⟨a, ns, rfl, hs, hl, q⟩ := h
    refine ⟨_, (pss_cons (ps_set (i := 1) sc_law_numbers.nd rfl (by first | exact .inl rfl | exact .inr rfl) (pe_lst pa_nil))
      (pss_cons (ps_for PassesOwn.never rfl (pi_range1 (by rfl) T.z_range (pa_cons (pe_callB (call_min2 rfl) (by rfl) T.z_min (by decide +kernel) (pa_cons (pe_callB (lenS K rfl) (by rfl) T.z_len (by decide +kernel) (pa_cons (pv 0) pa_nil)) (pa_cons pe_int pa_nil))) pa_nil)) (pg_name (i := 2) sc_law_numbers.nd rfl (by first | exact .inl rfl | exact .inr rfl))
      (pss_cons (ps_set (i := 3) sc_law_numbers.nd rfl (by first | exact .inl rfl | exact .inr rfl) (pe_callB (call_abs) (by rfl) T.z_abs (by decide +kernel) (pa_cons (pe_ix (ixL K rfl) (pv 0) (pv 2) (fun _ _ => rfl)) pa_nil)))
      (pss_one (ps_if (pt_cmpR op_ge (pv 3) (pe_op op_pow pe_int pe_int) (nomark _))
      (pss_one (ps_for PassesOwn.never rfl (pi_range1 (by rfl) T.z_range (pa_cons pe_int pa_nil)) (pg_name (i := 4) sc_law_numbers.nd rfl (by first | exact .inl rfl | exact .inr rfl))
      (pss_one (ps_if (pt_cmpR op_gt (pv 3) pe_int (nomark _))
      (pss_cons (ps_expr (pe_bm PySem.F.plainAttrs_list PySem.F.slot_list_append PySem.F.type_list_append mt_append (pv 1) (pa_cons (pe_op op_mod (pv 3) pe_int) pa_nil)))
      (pss_one (ps_set (i := 3) sc_law_numbers.nd rfl (by first | exact .inl rfl | exact .inr rfl) (pe_op op_fdiv (pv 3) pe_int))))
      pss_nil))))
      (pss_one (ps_for PassesOwn.never rfl (pi_range1 (by rfl) T.z_range (pa_cons pe_int pa_nil)) (pg_name (i := 5) sc_law_numbers.nd rfl (by first | exact .inl rfl | exact .inr rfl))
      (pss_cons (ps_set (i := 3) sc_law_numbers.nd rfl (by first | exact .inl rfl | exact .inr rfl) (pe_op op_mod (pe_op op_add (pe_op op_add (pe_op op_mul (pv 3) pe_int) (pe_op op_mul pe_int (pe_op op_add (pv 5) (pv 2)))) pe_int) pe_int))
      (pss_cons (ps_set (i := 6) sc_law_numbers.nd rfl (by first | exact .inl rfl | exact .inr rfl) (pe_op op_mod (pe_op op_add (pe_op op_mul (pv 3) pe_int) (pe_op op_fdiv (pv 3) pe_int)) pe_int))
      (pss_one (ps_expr (pe_bm PySem.F.plainAttrs_list PySem.F.slot_list_append PySem.F.type_list_append mt_append (pv 1) (pa_cons (pe_op op_mod (pv 6) pe_int) pa_nil))))))))))))
      (pss_one (ps_ret (pv 1))))), ?_⟩
    refine ⟨by show 0 ≤ sizeLine; decide, fun R nR => ?_⟩
    have haR : ∀ {b o}, H b = some o → b ≠ R := fun e => ne_of_none e nR
    refine ⟨_, rfl, a, _, rfl, .inl (Same.seq (same_upd nR) hs), _, 63, rfl, (if (63 : Int) < ((ns.map V.int).length : Int) then 63 else ((ns.map V.int).length : Int)), rfl, by split <;> omega, by split <;> omega, ?_⟩
    obtain ⟨n, hn, hn63⟩ : ∃ n : Nat, (if (63 : Int) < ((ns.map V.int).length : Int) then (63 : Int) else ((ns.map V.int).length : Int)) = (n : Int) ∧ n ≤ ns.length := by
      refine ⟨ns.length, ?_, Nat.le_refl _⟩
      rw [List.length_map, if_neg (by omega)]
    rw [hn, Int.toNat_natCast]
    refine for_it walk_range (fun i σ H2 => ∃ y2 y3 y4 y5 y6, σ = [some (.ref a), some (.ref R), y2, y3, y4, y5, y6] ∧ Same H H2 ∧ ∃ l : List Int, H2 R = some (.lst (l.map V.int)) ∧ l.length ≤ 60 * i) ⟨_, _, _, _, _, rfl, same_upd nR, [], upd_same, by simp⟩ (fun _ _ _ _ _ => trivial) ?_ ?_
    · rintro i zz σ H2 H2' hi ⟨y2, y3, y4, y5, y6, rfl, s2, l, eR, hlen⟩ ⟨rfl, rfl⟩
      obtain ⟨z, ez⟩ : ∃ z, ns[i]? = some z := ⟨_, List.getElem?_eq_getElem (by omega)⟩
      refine ⟨_, rfl, _, rfl, a, _, _, _, rfl, rfl, Same.seq s2 hs, at_of (j := i) (by omega) (ints_at ez), z, rfl, ?_⟩
      obtain ⟨c, hc, hc0⟩ : ∃ c : Int, (if z < 0 then -z else z) = c ∧ 0 ≤ c := ⟨_, rfl, by split <;> omega⟩
      rw [hc]
      have p18 : ((10 : Int) ^ (18 : Int).toNat) = 1000000000000000000 := by decide
      refine ⟨_, rfl, 10, 18, rfl, rfl, ⟨by decide, by decide, by decide⟩, _, _, rfl, rfl, _, rfl, ?_⟩
      by_cases hbig : ((10 : Int) ^ (18 : Int).toNat) ≤ c
      · rw [decide_eq_true hbig]
        refine iteT ?_
        refine ⟨60, rfl, by decide, by decide, ?_⟩
        refine for_it walk_range (fun j σ H3 => ∃ (c : Int) (y4 y5 y6 : Option V), σ = [some (.ref a), some (.ref R), some (.int (0 + (i : Int))), some (.int c), y4, y5, y6] ∧ Same H H3 ∧ ∃ l : List Int, H3 R = some (.lst (l.map V.int)) ∧ l.length ≤ 60 * i + j) ⟨c, _, _, _, rfl, s2, l, eR, by omega⟩ (fun _ _ _ _ _ => trivial) ?_ ?_
        · rintro j zz σ H3 H3' hj ⟨c, y4, y5, y6, rfl, s3, l, eR, hlen⟩ ⟨rfl, rfl⟩
          have hj' : j < 60 := hj
          refine ⟨_, rfl, _, _, rfl, rfl, _, rfl, ?_⟩
          by_cases h0 : 0 < c
          · rw [decide_eq_true h0]
            refine iteT ?_
            refine ⟨_, rfl, .inl ⟨rfl, _, .inl (.inl eR)⟩, _, rfl, c, 1009, rfl, rfl, by show (0 : Int) < 1009; decide, R, _, _, rfl, rfl, eR, small4000 (by rw [List.length_map]; omega), ?_⟩
            refine ⟨_, rfl, c, 1009, rfl, rfl, ⟨by decide, by decide⟩, ?_⟩
            refine ⟨_, _, _, _, rfl, fun b o e => ?_, l ++ [c % 1009], ?_, by rw [List.length_append, List.length_singleton]; omega⟩
            · rw [upd_ne (haR e)]
              exact s3 _ _ e
            · rw [upd_same, List.map_append]
              rfl
          · rw [decide_eq_false h0]
            refine iteF ?_
            exact ⟨_, _, _, _, rfl, s3, l, eR, by omega⟩
        · rintro σ H3 ⟨c, y4, y5, y6, rfl, s3, l, eR, hlen⟩
          have hlen' : l.length ≤ 60 * i + 60 := hlen
          exact ⟨_, _, _, _, _, rfl, s3, l, eR, by omega⟩
      · rw [decide_eq_false hbig]
        rw [p18] at hbig
        refine iteF ?_
        refine ⟨5, rfl, by decide, by decide, ?_⟩
        refine for_it walk_range (fun j σ H3 => ∃ (c : Int) (y4 y5 y6 : Option V), σ = [some (.ref a), some (.ref R), some (.int (0 + (i : Int))), some (.int c), y4, y5, y6] ∧ 0 ≤ c ∧ c < 1000000000000000000 ∧ Same H H3 ∧ ∃ l : List Int, H3 R = some (.lst (l.map V.int)) ∧ l.length ≤ 60 * i + j) ⟨c, _, _, _, rfl, hc0, by omega, s2, l, eR, by omega⟩ (fun _ _ _ _ _ => trivial) ?_ ?_
        · rintro j zz σ H3 H3' hj ⟨c, y4, y5, y6, rfl, hc0, hc1, s3, l, eR, hlen⟩ ⟨rfl, rfl⟩
          have hj' : j < 5 := hj
          refine ⟨_, rfl, c, 48271, rfl, rfl, .inl ⟨by omega, by omega⟩, ?_⟩
          refine ⟨_, rfl, _, rfl, _, _, rfl, rfl, 69621, _, rfl, rfl, .inl ⟨by decide, by decide⟩, ?_⟩
          refine ⟨_, _, rfl, rfl, _, _, rfl, rfl, _, 2147483647, rfl, rfl, by show (0 : Int) < 2147483647; decide, ?_⟩
          obtain ⟨c1, hc1e, hc10, hc11⟩ : ∃ c1 : Int, (c * 48271 + 69621 * (0 + (j : Int) + (0 + (i : Int))) + 11) % 2147483647 = c1 ∧ 0 ≤ c1 ∧ c1 < 2147483647 := ⟨_, rfl, Int.emod_nonneg _ (by decide), Int.emod_lt_of_pos _ (by decide)⟩
          dsimp only
          rw [hc1e]
          refine ⟨_, rfl, c1, 16807, rfl, rfl, .inl ⟨by omega, by omega⟩, _, rfl, c1, 65536, rfl, rfl, ⟨by decide, by decide⟩, _, _, rfl, rfl, _, 2147483629, rfl, rfl, by show (0 : Int) < 2147483629; decide, ?_⟩
          refine ⟨_, rfl, .inl ⟨rfl, _, .inl (.inl eR)⟩, _, rfl, _, 1009, rfl, rfl, by show (0 : Int) < 1009; decide, R, _, _, rfl, rfl, eR, small4000 (by rw [List.length_map]; omega), ?_⟩
          refine ⟨c1, _, _, _, rfl, hc10, by omega, fun b o e => ?_, l ++ [(c1 * 16807 + c1 / 65536) % 2147483629 % 1009], ?_, by rw [List.length_append, List.length_singleton]; omega⟩
          · rw [upd_ne (haR e)]
            exact s3 _ _ e
          · rw [upd_same, List.map_append]
            rfl
        · rintro σ H3 ⟨c, y4, y5, y6, rfl, hc0, hc1, s3, l, eR, hlen⟩
          have hlen' : l.length ≤ 60 * i + 5 := hlen
          exact ⟨_, _, _, _, _, rfl, s3, l, eR, by omega⟩
    · rintro σ H2 ⟨y2, y3, y4, y5, y6, rfl, s2, l, eR, hlen⟩
      exact ⟨_, rfl, q R H2 s2 nR ⟨l, eR, by omega⟩⟩
theorem cal_law_numbers (T : Top K mg) (hN : base.NoSeer) (hT : P.given.tree = none) : Cal P w K mg base 1 "_law_numbers" (sp_law_numbers K) [] := ⟨⟨_, _, _, [], ok_law_numbers T hN hT, T.g_law_numbers, T.F_law_numbers.kp, T.b_law_numbers, .nil⟩⟩

end
end K50
namespace K50
open PySem PySem.Spec PyProof.Rows L2 Gm
open C8 (Cal Met Mak pe_c pe_mt pe_mt0 pe_mk)
section
variable {P : Program} {w : World} {K : PySem.W.Frag} {mg : Str → Option Value} {base : Heap}
/-! ### the law's draws -/
theorem num_same {H H' : Hp} {p : Addr} (s : Same H H') (h : NumAt H p) : NumAt H' p := let ⟨ns, e, l⟩ := h; ⟨ns, s _ _ e, l⟩
theorem num_ne {H : Hp} {p a : Addr} (h : NumAt H p) (na : H a = none) : a ≠ p := fun e => by
  obtain ⟨ns, x, _⟩ := h
  rw [e, x] at na
  cases na
def spaceL : List Str := [" ", "  ", "   "]
def nameL : List Str := ["a", "b", "lat", "zzzzzzzz", "lets", "shor"]
def sp_law_space : Sp := fun vs H Q _ => ∃ p : Addr, vs = [.ref p] ∧ NumAt H p ∧ ∀ (s : Str) H', s ∈ spaceL → Off p H H' → NumAt H' p → Q (.str s) H'
theorem ok_law_space (T : Top K mg) (hN : base.NoSeer) (hT : P.given.tree = none) : FnOk P w K mg base CX0 2 T.a_law_space T.d_law_space ["numbers"] sp_law_space := by
  refine T.F_law_space.ok sc_law_space (fun vs H Q E h => ?_) (fun cdv A outer s H vs Q E hr h => ?_)
  · obtain ⟨p, rfl, _⟩ := h
    rfl
  · obtain ⟨p, rfl, nu, q⟩ := h
    refine ⟨_, (pss_one (ps_ret (pe_ix (ixL K rfl) (pe_lst (pa_cons pe_str (pa_cons pe_str (pa_cons pe_str pa_nil)))) (pe_c (cal_law_next T hN hT) hr (by decide) (by rfl) (pa_cons (pv 0) (pa_cons pe_int pa_nil))) (fun _ _ => rfl)))), ?_⟩
    refine ⟨by show 3 ≤ sizeLine; decide, fun a na => ?_⟩
    have s1 := same_upd (o := .lst (spaceL.map V.str)) na
    have e1 : (upd H a (.lst (spaceL.map V.str))) a = some (.lst (spaceL.map V.str)) := upd_same
    have ne := num_ne nu na
    refine ⟨_, rfl, p, 3, rfl, num_same s1 nu, by decide, fun r H2 hr2 o2 nu2 => ?_⟩
    have lt : r < spaceL.length := hr2
    have ge : (spaceL.map V.str)[r]? = some (.str spaceL[r]) := by rw [List.getElem?_map, List.getElem?_eq_getElem lt]; rfl
    exact ⟨a, _, _, _, rfl, rfl, .inl (.inl (o2 _ _ ne e1)), at_of (j := r) rfl ge, q _ _ (List.getElem_mem lt) (Off.trans (Same.off s1) o2) nu2⟩
theorem cal_law_space (T : Top K mg) (hN : base.NoSeer) (hT : P.given.tree = none) : Cal P w K mg base 2 "_law_space" sp_law_space [] := ⟨⟨_, _, _, [], ok_law_space T hN hT, T.g_law_space, T.F_law_space.kp, T.b_law_space, .nil⟩⟩
def sp_law_name : Sp := fun vs H Q _ => ∃ p : Addr, vs = [.ref p] ∧ NumAt H p ∧ ∀ (s : Str) H', s ∈ nameL → Off p H H' → NumAt H' p → Q (.str s) H'
theorem ok_law_name (T : Top K mg) (hN : base.NoSeer) (hT : P.given.tree = none) : FnOk P w K mg base CX0 2 T.a_law_name T.d_law_name ["numbers"] sp_law_name := by
  refine T.F_law_name.ok sc_law_name (fun vs H Q E h => ?_) (fun cdv A outer s H vs Q E hr h => ?_)
  · obtain ⟨p, rfl, _⟩ := h
    rfl
  · obtain ⟨p, rfl, nu, q⟩ := h
    refine ⟨_, (pss_one (ps_ret (pe_ix (ixL K rfl) (pe_lst (pa_cons pe_str (pa_cons pe_str (pa_cons pe_str (pa_cons pe_str (pa_cons pe_str (pa_cons pe_str pa_nil))))))) (pe_c (cal_law_next T hN hT) hr (by decide) (by rfl) (pa_cons (pv 0) (pa_cons pe_int pa_nil))) (fun _ _ => rfl)))), ?_⟩
    refine ⟨by show 6 ≤ sizeLine; decide, fun a na => ?_⟩
    have s1 := same_upd (o := .lst (nameL.map V.str)) na
    have e1 : (upd H a (.lst (nameL.map V.str))) a = some (.lst (nameL.map V.str)) := upd_same
    have ne := num_ne nu na
    refine ⟨_, rfl, p, 6, rfl, num_same s1 nu, by decide, fun r H2 hr2 o2 nu2 => ?_⟩
    have lt : r < nameL.length := hr2
    have ge : (nameL.map V.str)[r]? = some (.str nameL[r]) := by rw [List.getElem?_map, List.getElem?_eq_getElem lt]; rfl
    exact ⟨a, _, _, _, rfl, rfl, .inl (.inl (o2 _ _ ne e1)), at_of (j := r) rfl ge, q _ _ (List.getElem_mem lt) (Off.trans (Same.off s1) o2) nu2⟩
theorem cal_law_name (T : Top K mg) (hN : base.NoSeer) (hT : P.given.tree = none) : Cal P w K mg base 2 "_law_name" sp_law_name [] := ⟨⟨_, _, _, [], ok_law_name T hN hT, T.g_law_name, T.F_law_name.kp, T.b_law_name, .nil⟩⟩

end
end K50
namespace K50
open PySem PySem.Spec PyProof.Rows L2 Gm
open C8 (Cal Met Mak pe_c pe_mt pe_mt0 pe_mk)
section
variable {P : Program} {w : World} {K : PySem.W.Frag} {mg : Str → Option Value} {base : Heap}
/-! ### refused lines -/
def RefL (K : PySem.W.Frag) (CG CL XM XR X : Addr) (H : Hp) (v : V) : Prop := ∀ (Q1 : VK) (E1 : XK), ENo E1 X H → sp_read_line K CG CL XM XR X [v] H Q1 E1
def sp_law_refuses (K : PySem.W.Frag) (CG CL XM XR X : Addr) : Sp := fun vs H Q _ => ∃ v, vs = [v] ∧ RefL K CG CL XM XR X H v ∧ ∀ H', Same H H' → Q (.bl true) H'
theorem ok_law_refuses (T : Top K mg) (hN : base.NoSeer) (hT : P.given.tree = none) : FnOk P w K mg base CX0 50 T.a_law_refuses T.d_law_refuses ["line"] (sp_law_refuses K T.C_Grid T.C_Lattice T.X_Malformed T.X_Refused T.X_NoText) := by
  refine T.F_law_refuses.ok sc_law_refuses (fun vs H Q E h => ?_) (fun cdv A outer s H vs Q E hr h => ?_)
  · obtain ⟨v, rfl, _⟩ := h
    rfl
  · obtain ⟨v, rfl, hv, q⟩ := h
    refine ⟨_, (pss_one (ps_try_cl (Wout := fun _ _ _ _ => False) rfl rfl takes0 (fun W pn xe tk _ => (pss_cons (ps_expr (pe_callS (E := WE W) (ok_read_line T hN hT) (hr.mono (by decide)) (by rfl) T.g_read_line T.F_read_line.kp T.b_read_line (fun σ => passAt tk σ) (pa_cons (pv 0) pa_nil))) (pss_one (ps_ret pe_bl)))) (ClsOk.named (i := 1) ⟨rfl, by decide, Or.inl T.gX_NoText⟩ sc_law_refuses.nd rfl rfl (fun a oe cls d pn hz hf => (pss_one (ps_ret (pe_cmpR op_eq (pe_xf T.fX_NoText T.nf_NoText hz hf (pv 1)) pe_int (nomark _))))) ClsOk.nil))), ?_⟩
    refine ⟨_, rfl, ?_⟩
    dsimp only [tNil]
    refine hv _ _ fun d H5 s5 hd => ?_
    refine ⟨true, exm1 T.bX_NoText T.iX_NoText T.tX_NoText T.sX_NoText, fun _ a na => ?_, fun z => (nomatch z)⟩
    refine ⟨_, rfl, rfl, rfl, d, _, _, rfl, hd, rfl, rfl, ?_⟩
    rw [decide_eq_true (rfl : V.int 0 = V.int 0)]
    exact q H5 s5
theorem cal_law_refuses (T : Top K mg) (hN : base.NoSeer) (hT : P.given.tree = none) : Cal P w K mg base 50 "_law_refuses" (sp_law_refuses K T.C_Grid T.C_Lattice T.X_Malformed T.X_Refused T.X_NoText) [] := ⟨⟨_, _, _, [], ok_law_refuses T hN hT, T.g_law_refuses, T.F_law_refuses.kp, T.b_law_refuses, .nil⟩⟩

end
end K50
namespace K50
open PySem PySem.Spec PyProof.Rows L2 Gm
open C8 (Cal Met Mak pe_c pe_mt pe_mt0 pe_mk)
section
variable {P : Program} {w : World} {K : PySem.W.Frag} {mg : Str → Option Value} {base : Heap}
/-! ### the law's lines -/
def glueS : List (Str × Str) → List Nat
  | [] => []
  | (s, w) :: r => TL.tl s ++ (TL.tl w ++ glueS r)
theorem glueS_app : ∀ (a b : List (Str × Str)), glueS (a ++ b) = glueS a ++ glueS b
  | [], _ => rfl
  | (s, w) :: r, b => by
    show TL.tl s ++ (TL.tl w ++ glueS (r ++ b)) = (TL.tl s ++ (TL.tl w ++ glueS r)) ++ glueS b
    rw [glueS_app r b, List.append_assoc, List.append_assoc]
def PlainW (w : Str) : Prop := TL.tl w ≠ [] ∧ ∀ c ∈ TL.tl w, Unicode.isSpace c = false
theorem space_step {s : Str} (h : s ∈ spaceL) (acc : List (List Nat)) {u : List Nat} (hu : u ≠ []) : (TL.tl s).foldl TL.wstep (acc, u) = (acc ++ [u], []) := by
  have e32 : Unicode.isSpace 32 = true := by decide +kernel
  have k1 : TL.wstep (acc, u) 32 = (acc ++ [u], []) := by
    unfold TL.wstep
    simp [e32, hu]
  have k2 : ∀ a : List (List Nat), TL.wstep (a, []) 32 = (a, []) := fun a => by
    unfold TL.wstep
    simp [e32]
  unfold spaceL at h
  simp only [List.mem_cons, List.not_mem_nil, or_false] at h
  rcases h with rfl | rfl | rfl
  · show TL.wstep (acc, u) 32 = _
    exact k1
  · show TL.wstep (TL.wstep (acc, u) 32) 32 = _
    rw [k1, k2]
  · show TL.wstep (TL.wstep (TL.wstep (acc, u) 32) 32) 32 = _
    rw [k1, k2, k2]
theorem glue_words : ∀ (ps : List (Str × Str)) (acc : List (List Nat)) (u : List Nat), u ≠ [] → (∀ q ∈ ps, q.1 ∈ spaceL ∧ PlainW q.2) → TL.wfin ((glueS ps).foldl TL.wstep (acc, u)) = acc ++ u :: ps.map fun q => TL.tl q.2
  | [], acc, u, hu, _ => by
    show TL.wfin (acc, u) = _
    unfold TL.wfin
    rw [if_neg hu]
    rfl
  | (s, w) :: r, acc, u, hu, h => by
    obtain ⟨hs, hw⟩ := h (s, w) (List.mem_cons_self ..)
    show TL.wfin ((TL.tl s ++ (TL.tl w ++ glueS r)).foldl TL.wstep (acc, u)) = _
    rw [List.foldl_append, List.foldl_append, space_step hs acc hu, TL.wfold_word _ _ _ hw.2, List.nil_append, glue_words r _ _ hw.1 fun q hq => h q (List.mem_cons_of_mem _ hq)]
    rw [List.append_assoc]
    rfl
theorem wfin_blank (st : List (List Nat) × List Nat) : TL.wfin (TL.wstep st 32) = TL.wfin st := by
  have e32 : Unicode.isSpace 32 = true := by decide +kernel
  obtain ⟨a, u⟩ := st
  unfold TL.wstep TL.wfin
  by_cases hu : u = []
  · simp [e32, hu]
  · simp [e32, hu]
theorem wfin_blanks : ∀ (n : Nat) (st : List (List Nat) × List Nat), TL.wfin ((List.replicate n 32).foldl TL.wstep st) = TL.wfin st
  | 0, _ => rfl
  | n + 1, st => by
    rw [List.replicate_succ]
    show TL.wfin ((List.replicate n 32).foldl TL.wstep (TL.wstep st 32)) = _
    rw [wfin_blanks n, wfin_blank]
theorem lead_blanks : ∀ (n : Nat), (List.replicate n 32).foldl TL.wstep (([], []) : List (List Nat) × List Nat) = ([], [])
  | 0 => rfl
  | n + 1 => by
    have e32 : Unicode.isSpace 32 = true := by decide +kernel
    rw [List.replicate_succ]
    show (List.replicate n 32).foldl TL.wstep (TL.wstep ([], []) 32) = _
    rw [show TL.wstep (([], []) : List (List Nat) × List Nat) 32 = ([], []) by unfold TL.wstep; simp [e32], lead_blanks n]
/-- the words of a line -/
theorem line_words {x w0 : Str} {ps : List (Str × Str)} {i j : Nat} (e : TL.tl x = List.replicate i 32 ++ ((TL.tl w0 ++ glueS ps) ++ List.replicate j 32)) (h0 : PlainW w0) (h : ∀ q ∈ ps, q.1 ∈ spaceL ∧ PlainW q.2) : Txt.words x = w0 :: ps.map Prod.snd := by
  refine TL.map_tl_inj ?_
  rw [TL.words_tl, e, List.foldl_append, lead_blanks, List.foldl_append, wfin_blanks, List.foldl_append, TL.wfold_word _ _ _ h0.2, List.nil_append, glue_words ps [] _ h0.1 h, List.map_cons, List.map_map]
  rfl
def sp_law_line : Sp := fun vs H Q _ => ∃ (a p : Addr) (ws : List Str), vs = [.ref a, .ref p] ∧ H a = some (.lst (ws.map V.str)) ∧ a ≠ p ∧ NumAt H p ∧ 0 < ws.length ∧ ws.length ≤ 10 ∧ (∀ w ∈ ws, TL.tl w ≠ [] ∧ w.length ≤ 60) ∧
  ∀ (s w0 : Str) (ps : List (Str × Str)) H', ws = w0 :: ps.map Prod.snd → (∀ q ∈ ps, q.1 ∈ spaceL) → TL.tl s = TL.tl w0 ++ glueS ps → s.length ≤ 700 → Off p H H' → NumAt H' p → Q (.str s) H'
def LnI (ws : List Str) (i : Nat) (s : Str) : Prop := s.length ≤ i * 70 ∧ ((i = 0 ∧ s = ("" : Str)) ∨ ∃ (w0 : Str) (ps : List (Str × Str)), ws.take i = w0 :: ps.map Prod.snd ∧ (∀ q ∈ ps, q.1 ∈ spaceL) ∧ TL.tl s = TL.tl w0 ++ glueS ps)
theorem ok_law_line (T : Top K mg) (hN : base.NoSeer) (hT : P.given.tree = none) : FnOk P w K mg base CX0 3 T.a_law_line T.d_law_line ["words", "numbers"] sp_law_line := by
  refine T.F_law_line.ok sc_law_line (fun vs H Q E h => ?_) (fun cdv A outer s H vs Q E hr h => ?_)
  · obtain ⟨a, p, ws, rfl, _⟩ := h
    rfl
  · obtain ⟨a, p, ws, rfl, ha, nap, nu, h0, h10, hw, q⟩ := h
    refine ⟨_, (pss_cons (ps_set (i := 2) sc_law_line.nd rfl (by first | exact .inl rfl | exact .inr rfl) pe_str)
      (pss_cons (ps_for PassesOwn.never rfl (piS K rfl (pv 0)) (pg_name (i := 3) sc_law_line.nd rfl (by first | exact .inl rfl | exact .inr rfl))
      (pss_cons (ps_if (pt_cmpR op_ne (pv 2) pe_str (nomark _))
      (pss_one (ps_set (i := 2) sc_law_line.nd rfl (by first | exact .inl rfl | exact .inr rfl) (pe_op op_add_str (pv 2) (pe_c (cal_law_space T hN hT) hr (by decide) (by rfl) (pa_cons (pv 1) pa_nil)))))
      pss_nil)
      (pss_one (ps_set (i := 2) sc_law_line.nd rfl (by first | exact .inl rfl | exact .inr rfl) (pe_op op_add_str (pv 2) (pv 3))))))
      (pss_one (ps_ret (pv 2))))), ?_⟩
    have hz : 100000 ≤ sizeLine := by decide
    refine ⟨_, rfl, a, _, rfl, .inl (.inl (.inl ha)), fun J G W hG => ?_⟩
    refine for_it W (fun i σ H1 => ∃ (s : Str) (last : Option V), σ = [some (.ref a), some (.ref p), some (.str s), last] ∧ Off p H H1 ∧ NumAt H1 p ∧ LnI ws i s) ⟨"", none, rfl, fun _ _ _ e => e, nu, by show 0 ≤ 0 * 70; omega, .inl ⟨rfl, rfl⟩⟩ (fun i σ H1 _ ⟨_, _, _, o1, _, _⟩ => hG H1 fun b hb o e => ?_) ?_ ?_
    · have hba : b = a := by simpa using hb
      subst hba
      rw [ha] at e
      rw [← e]
      exact o1 _ _ nap ha
    · rintro i v σ H1 H1' hi ⟨s, last, rfl, o1, nu1, hl, hs⟩ ⟨rfl, ex⟩
      rw [List.getElem?_map] at ex
      obtain ⟨w, ew, rfl⟩ := Option.map_eq_some_iff.mp ex
      obtain ⟨hwp, hwl⟩ := hw w (List.mem_of_getElem? ew)
      have hi10 : i < ws.length := (List.getElem?_eq_some_iff.mp ew).1
      have etk : ws.take (i + 1) = ws.take i ++ [w] := by rw [List.take_add_one, ew]; rfl
      have la : ∀ (x y : Str), (x ++ y).length = x.length + y.length := fun x y => by rw [TL.len_tl, TL.tl_append, List.length_append, ← TL.len_tl, ← TL.len_tl]
      refine ⟨_, rfl, rfl, _, rfl, ?_⟩
      by_cases h : s = ("" : Str)
      · rw [show (!decide (V.str s = V.str ("" : Str))) = false by rw [decide_eq_true (congrArg V.str h)]; rfl]
        refine iteF ?_
        refine ⟨_, rfl, _, rfl, _, _, rfl, rfl, by omega, ?_⟩
        refine ⟨s ++ w, some (.str w), rfl, o1, nu1, ?_, ?_⟩
        · rw [la, Nat.succ_mul]
          omega
        · rcases hs with ⟨hi0, _⟩ | ⟨w0, ps, e1, e2, e3⟩
          · refine .inr ⟨w, [], ?_, fun q hq => (by cases hq), ?_⟩
            · rw [etk, hi0]
              rfl
            · rw [TL.tl_append, h]
              exact (List.append_nil _).symm
          · exfalso
            have hw0 : w0 ∈ ws := List.mem_of_mem_take (i := i) (by rw [e1]; exact List.mem_cons_self ..)
            have := (hw w0 hw0).1
            rw [h] at e3
            have e3 : [] = TL.tl w0 ++ glueS ps := e3
            exact this (List.append_eq_nil_iff.mp e3.symm).1
      · rw [show (!decide (V.str s = V.str ("" : Str))) = true by rw [decide_eq_false fun z => h (V.str.inj z)]; rfl]
        refine iteT ?_
        refine ⟨_, rfl, _, rfl, p, rfl, nu1, fun sp H2 hsp o2 nu2 => ?_⟩
        have lsp : sp.length ≤ 3 := by
          unfold spaceL at hsp
          simp only [List.mem_cons, List.not_mem_nil, or_false] at hsp
          rcases hsp with rfl | rfl | rfl <;> decide
        refine ⟨_, _, rfl, rfl, by omega, ?_⟩
        refine ⟨_, rfl, _, rfl, _, _, rfl, rfl, by rw [la]; omega, ?_⟩
        refine ⟨s ++ sp ++ w, some (.str w), rfl, Off.trans o1 o2, nu2, ?_, ?_⟩
        · rw [la, la, Nat.succ_mul]
          omega
        · rcases hs with ⟨_, hs0⟩ | ⟨w0, ps, e1, e2, e3⟩
          · exact absurd hs0 h
          · refine .inr ⟨w0, ps ++ [(sp, w)], ?_, fun q hq => ?_, ?_⟩
            · rw [etk, e1, List.map_append]
              rfl
            · rcases List.mem_append.mp hq with hq | hq
              · exact e2 q hq
              · rw [List.mem_singleton.mp hq]
                exact hsp
            · rw [TL.tl_append, TL.tl_append, e3, glueS_app, List.append_assoc, List.append_assoc]
              show _ = TL.tl w0 ++ (glueS ps ++ (TL.tl sp ++ (TL.tl w ++ [])))
              rw [List.append_nil]
    · rintro σ H1 ⟨s, last, rfl, o1, nu1, hl, hs⟩
      rw [List.length_map] at hl hs
      refine ⟨_, rfl, ?_⟩
      rcases hs with ⟨hi0, _⟩ | ⟨w0, ps, e1, e2, e3⟩
      · omega
      · rw [List.take_of_length_le (Nat.le_refl _)] at e1
        exact q s w0 ps H1 e1 e2 e3 (by omega) o1 nu1
theorem cal_law_line (T : Top K mg) (hN : base.NoSeer) (hT : P.given.tree = none) : Cal P w K mg base 3 "_law_line" sp_law_line [] := ⟨⟨_, _, _, [], ok_law_line T hN hT, T.g_law_line, T.F_law_line.kp, T.b_law_line, .nil⟩⟩

end
end K50
namespace K50
open PySem PySem.Spec PyProof.Rows L2 Gm
open C8 (Cal Met Mak pe_c pe_mt pe_mt0 pe_mk)
section
variable {P : Program} {w : World} {K : PySem.W.Frag} {mg : Str → Option Value} {base : Heap}
/-! ### the law's command -/
inductive LC where
  | cmd (c : Cmd)
  | lat (n : Str) (z : Int)
def IsLC (K : PySem.W.Frag) (CG CL : Addr) (H : Hp) (v : V) : LC → Prop
  | .cmd c => ∃ p, v = .ref p ∧ IsCmd K H p c
  | .lat n z => ∃ p lv, v = .ref p ∧ SqT K H p [.str "let", .str n, lv] ∧ IsLat K CG CL H lv [[z, 1], [1, z + 1]] 2
inductive GoodC : LC → Prop
  | alone {w n : Str} : w ∈ aloneL → n ∈ nameL → GoodC (.cmd (.alone w n))
  | alike {n k : Str} : n ∈ nameL → k ∈ nameL → GoodC (.cmd (.alike n k))
  | short {n : Str} {z : Int} : n ∈ nameL → 0 ≤ z → z < 900 → GoodC (.cmd (.num "short" n z))
  | below {n : Str} {z : Int} : n ∈ nameL → 1 ≤ z → z ≤ 900 → GoodC (.cmd (.num "below" n z))
  | near {n : Str} {a : List Int} {d : Int} : n ∈ nameL → 0 < a.length → a.length ≤ 3 → (∀ x ∈ a, -49 ≤ x ∧ x ≤ 49) → 1 ≤ d → d ≤ 99 → GoodC (.cmd (.near n a d))
  | lat {n : Str} {z : Int} : n ∈ nameL → 1 ≤ z → z ≤ 50 → GoodC (.lat n z)
theorem gram_let {z : Int} (h1 : 1 ≤ z) (h2 : z ≤ 50) : Gram 2 [[z, 1], [1, z + 1]] := by
  refine ⟨⟨rfl, by simp, ?_⟩, by decide, by decide, rfl, ?_⟩
  · intro r hr x hx
    show x.natAbs < 8192
    simp at hr
    rcases hr with rfl | rfl <;> simp at hx <;> rcases hx with rfl | rfl <;> omega
  · have key : ∀ k : Nat, k < 50 → posM 2 [[((k : Nat) : Int) + 1, 1], [1, ((k : Nat) : Int) + 1 + 1]] = true := by decide +kernel
    have := key (z - 1).toNat (by omega)
    rwa [show (((z - 1).toNat : Nat) : Int) + 1 = z by omega] at this
theorem small_list {P : Int → Prop} : ∀ {is : List Nat} {l : List V}, Paired (fun _ v => ∃ z : Int, v = V.int z ∧ P z) is l → ∃ zs : List Int, l = zs.map V.int ∧ zs.length = is.length ∧ ∀ z ∈ zs, P z
  | _, _, .nil => ⟨[], rfl, rfl, fun z hz => (by cases hz)⟩
  | _, _, .cons ⟨z, e, h⟩ t => by
    obtain ⟨zs, e2, l2, h2⟩ := small_list t
    refine ⟨z :: zs, by rw [e, e2]; rfl, by rw [List.length_cons, List.length_cons, l2], fun y hy => ?_⟩
    rcases List.mem_cons.mp hy with rfl | hy
    · exact h
    · exact h2 y hy
def sp_law_command (K : PySem.W.Frag) (CG CL : Addr) : Sp := fun vs H Q _ => ∃ p : Addr, vs = [.ref p] ∧ NumAt H p ∧ ∀ v H' c, GoodC c → IsLC K CG CL H' v c → Off p H H' → NumAt H' p → Q v H'
theorem ok_law_command (T : Top K mg) (hN : base.NoSeer) (hT : P.given.tree = none) : FnOk P w K mg base CX0 47 T.a_law_command T.d_law_command ["numbers"] (sp_law_command K T.C_Grid T.C_Lattice) := by
  refine T.F_law_command.ok sc_law_command (fun vs H Q E h => ?_) (fun cdv A outer s H vs Q E hr h => ?_)
  · obtain ⟨p, rfl, _⟩ := h
    rfl
  · obtain ⟨p, rfl, nu, q⟩ := h
    refine ⟨_, (pss_cons (ps_set (i := 1) sc_law_command.nd rfl (by first | exact .inl rfl | exact .inr rfl) (pe_c (cal_law_name T hN hT) hr (by decide) (by rfl) (pa_cons (pv 0) pa_nil)))
      (pss_cons (ps_set (i := 2) sc_law_command.nd rfl (by first | exact .inl rfl | exact .inr rfl) (pe_c (cal_law_next T hN hT) hr (by decide) (by rfl) (pa_cons (pv 0) (pa_cons pe_int pa_nil))))
      (pss_cons (ps_if (pt_cmpR op_eq (pv 2) pe_int (nomark _))
      (pss_one (ps_ret (pe_tup (pa_cons pe_str (pa_cons (pv 1) (pa_cons (pe_c (cal_law_name T hN hT) hr (by decide) (by rfl) (pa_cons (pv 0) pa_nil)) pa_nil))))))
      pss_nil)
      (pss_cons (ps_if (pt_cmpR op_eq (pv 2) pe_int (nomark _))
      (pss_one (ps_ret (pe_tup (pa_cons pe_str (pa_cons (pv 1) (pa_cons (pe_c (cal_law_next T hN hT) hr (by decide) (by rfl) (pa_cons (pv 0) (pa_cons pe_int pa_nil))) pa_nil))))))
      pss_nil)
      (pss_cons (ps_if (pt_cmpR op_eq (pv 2) pe_int (nomark _))
      (pss_one (ps_ret (pe_tup (pa_cons pe_str (pa_cons (pv 1) (pa_cons (pe_op op_add pe_int (pe_c (cal_law_next T hN hT) hr (by decide) (by rfl) (pa_cons (pv 0) (pa_cons pe_int pa_nil)))) pa_nil))))))
      pss_nil)
      (pss_cons (ps_if (PW.pt (pw_or (pt_cmpR op_eq (pv 2) pe_int (nomark _)) (pw_or1 (pt_cmpR op_eq (pv 2) pe_int (nomark _)))))
      (pss_cons (ps_set (i := 3) sc_law_command.nd rfl (by first | exact .inl rfl | exact .inr rfl) (pe_callTy (tupK K rfl) (by rfl) T.z_tuple (by decide +kernel) (pa_cons (pe_lc (own := [("turn", 5)]) (g := (gName 5)) (by rfl) sc_law_command.nd (pi_range1 (by rfl) T.z_range (pa_cons (pe_op op_add pe_int (pe_c (cal_law_next T hN hT) hr (by decide) (by rfl) (pa_cons (pv 0) (pa_cons pe_int pa_nil)))) pa_nil)) ((by show BlkOk ["numbers", "one", "k", "point", "n", "turn"] (defScope s_law_command) _ _; exact blkOk_by (by decide +kernel))) (fun _ _ _ _ _ => (pg_name (i := 5) sc_law_command.nd rfl (by first | exact .inl rfl | exact .inr rfl))) (fun _ _ _ _ _ => pts_nil) (fun _ _ _ _ _ => (pe_op op_sub (pe_c (cal_law_next T hN hT) hr (by decide) (by rfl) (pa_cons (pv 0) (pa_cons pe_int pa_nil))) pe_int))) pa_nil)))
      (pss_one (ps_ret (pe_tup (pa_cons pe_str (pa_cons (pv 1) (pa_cons (pv 3) (pa_cons (pe_op op_add pe_int (pe_c (cal_law_next T hN hT) hr (by decide) (by rfl) (pa_cons (pv 0) (pa_cons pe_int pa_nil)))) pa_nil))))))))
      pss_nil)
      (pss_cons (ps_if (pt_cmpR op_eq (pv 2) pe_int (nomark _))
      (pss_cons (ps_set (i := 4) sc_law_command.nd rfl (by first | exact .inl rfl | exact .inr rfl) (pe_op op_add pe_int (pe_c (cal_law_next T hN hT) hr (by decide) (by rfl) (pa_cons (pv 0) (pa_cons pe_int pa_nil)))))
      (pss_one (ps_ret (pe_tup (pa_cons pe_str (pa_cons (pv 1) (pa_cons (pe_mk (mak_Lattice T hN hT) hr (by decide) (by rfl) (pa_cons (pe_lst (pa_cons (pe_lst (pa_cons (pv 4) (pa_cons pe_int pa_nil))) (pa_cons (pe_lst (pa_cons pe_int (pa_cons (pe_op op_add (pv 4) pe_int) pa_nil))) pa_nil))) pa_nil)) pa_nil)))))))
      pss_nil)
      (pss_one (ps_ret (pe_tup (pa_cons (pe_ix (ixL K rfl) (pe_lst (pa_cons pe_str (pa_cons pe_str (pa_cons pe_str (pa_cons pe_str (pa_cons pe_str pa_nil)))))) (pe_c (cal_law_next T hN hT) hr (by decide) (by rfl) (pa_cons (pv 0) (pa_cons pe_int pa_nil))) (fun _ _ => rfl)) (pa_cons (pv 1) pa_nil)))))))))))), ?_⟩
    refine ⟨_, rfl, p, rfl, nu, fun one H1 h1 o1 nu1 => ?_⟩
    refine ⟨_, rfl, p, 10, rfl, nu1, by decide, fun k H2 hk o2 nu2 => ?_⟩
    have o12 := Off.trans o1 o2
    have kd : ∀ j : Nat, decide (V.int (k : Nat) = V.int (j : Nat)) = decide (k = j) := fun j => by
      by_cases h : k = j
      · rw [h, decide_eq_true rfl, decide_eq_true rfl]
      · rw [decide_eq_false h, decide_eq_false fun z => h (by have := V.int.inj z; omega)]
    refine ⟨_, rfl, rfl, _, rfl, ?_⟩
    by_cases h0 : k = 0
    · rw [show decide (V.int (k : Nat) = V.int 0) = true by rw [h0]; rfl]
      refine iteT ?_
      refine ⟨_, rfl, _, rfl, p, rfl, nu2, fun s2 H3 hs2 o3 nu3 => ⟨by show 3 ≤ sizeLine; decide, fun t nt => ?_⟩⟩
      exact q _ _ _ (.alike h1 hs2) ⟨t, rfl, .inl (.inl upd_same)⟩ (Off.trans (Off.trans o12 o3) (Same.off (same_upd nt))) (num_same (same_upd nt) nu3)
    rw [show decide (V.int (k : Nat) = V.int 0) = false from (kd 0).trans (decide_eq_false h0)]
    refine iteF ?_
    refine ⟨_, rfl, rfl, _, rfl, ?_⟩
    by_cases h1' : k = 1
    · rw [show decide (V.int (k : Nat) = V.int 1) = true by rw [h1']; rfl]
      refine iteT ?_
      refine ⟨_, rfl, _, rfl, p, 900, rfl, nu2, by decide, fun r H3 hr3 o3 nu3 => ⟨by show 3 ≤ sizeLine; decide, fun t nt => ?_⟩⟩
      exact q _ _ _ (.short h1 (by omega) (by omega)) ⟨t, rfl, .inl (.inl upd_same)⟩ (Off.trans (Off.trans o12 o3) (Same.off (same_upd nt))) (num_same (same_upd nt) nu3)
    rw [show decide (V.int (k : Nat) = V.int 1) = false from (kd 1).trans (decide_eq_false h1')]
    refine iteF ?_
    refine ⟨_, rfl, rfl, _, rfl, ?_⟩
    by_cases h2' : k = 2
    · rw [show decide (V.int (k : Nat) = V.int 2) = true by rw [h2']; rfl]
      refine iteT ?_
      refine ⟨_, rfl, _, rfl, p, 900, rfl, nu2, by decide, fun r H3 hr3 o3 nu3 => ⟨_, _, rfl, rfl, by show 3 ≤ sizeLine; decide, fun t nt => ?_⟩⟩
      exact q _ _ _ (.below (z := 1 + (r : Int)) h1 (by omega) (by omega)) ⟨t, rfl, .inl (.inl upd_same)⟩ (Off.trans (Off.trans o12 o3) (Same.off (same_upd nt))) (num_same (same_upd nt) nu3)
    rw [show decide (V.int (k : Nat) = V.int 2) = false from (kd 2).trans (decide_eq_false h2')]
    refine iteF ?_
    have near : tSeq (tAsg (tCB (rTupleOf K) (tCons (tLc (iRng1 (tCons (tOp (rI0 fun i j => V.int (i + j)) (tC (V.int 1)) (tCall sp_law_next [] C8.E0 (tCons (tVar 0) (tCons (tC (V.int 3)) tNil)))) tNil)) (gName 5) tYes (tOp (rI0 fun i j => V.int (i - j)) (tCall sp_law_next [] C8.E0 (tCons (tVar 0) (tCons (tC (V.int 99)) tNil))) (tC (V.int 49))) [5]) tNil)) (gName 3)) (tRet (tTup (tCons (tC (V.str "nearest")) (tCons (tVar 1) (tCons (tVar 3) (tCons (tOp (rI0 fun i j => V.int (i + j)) (tC (V.int 1)) (tCall sp_law_next [] C8.E0 (tCons (tVar 0) (tCons (tC (V.int 99)) tNil)))) tNil)))))) { nx := fun _ H' => Q V.non H', rt := Q } [some (.ref p), some (.str one), some (.int (k : Nat)), none, none, none] H2 := by
      refine ⟨_, rfl, p, 3, rfl, nu2, by decide, fun r H3 hr3 o3 nu3 => ⟨_, _, rfl, rfl, ?_⟩⟩
      refine ⟨1 + (r : Int), rfl, by omega, by omega, fun D hD => ?_⟩
      rw [show (1 + (r : Int)).toNat = 1 + r by omega]
      have hpD : D ≠ p := num_ne nu3 hD
      refine lc_val walk_range (by omega) (fun H4 => Off p H3 H4 ∧ NumAt H4 p) ⟨Same.off (same_upd hD), num_same (same_upd hD) nu3⟩ (fun _ _ => trivial) ?_ (fun _ v => ∃ z : Int, v = V.int z ∧ -49 ≤ z ∧ z ≤ 49) ?_ gm_name ?_
      · rintro H4 acc acc' ⟨o4, ns, e, l⟩ eD
        refine ⟨fun b u n h => ?_, ns, ?_, l⟩
        · rw [upd_ne (ne_of_none h hD)]
          exact o4 _ _ n h
        · rw [upd_ne (Ne.symm hpD)]
          exact e
      · rintro j x H4 H4' acc Ko hj ⟨o4, nu4⟩ eD ⟨rfl, rfl⟩ kk
        refine ⟨rfl, ?_⟩
        refine ⟨_, rfl, p, 99, rfl, nu4, by decide, fun r5 H5 hr5 o5 nu5 => ⟨_, _, rfl, rfl, ?_⟩⟩
        exact kk _ _ ⟨Off.trans o4 o5, nu5⟩ (o5 _ _ hpD eD) ⟨(r5 : Int) - 49, rfl, by omega, by omega⟩
      · rintro H4 l2 ⟨o4, nu4⟩ eD hpl
        obtain ⟨zs, rfl, lz, bz⟩ := small_list hpl
        rw [List.length_range] at lz
        refine ⟨D, _, rfl, .inl ⟨.inl (.inl eD), fun t nt => ?_⟩⟩
        have s5 := same_upd (o := .tup (zs.map V.int)) nt
        have et : (upd H4 t (.tup (zs.map V.int))) t = some (.tup (zs.map V.int)) := upd_same
        have htp := num_ne nu4 nt
        have nu5 := num_same s5 nu4
        generalize upd H4 t (.tup (zs.map V.int)) = H5 at s5 et nu5 ⊢
        refine ⟨_, rfl, _, rfl, _, rfl, p, 99, rfl, nu5, by decide, fun r6 H6 hr6 o6 nu6 => ⟨_, _, rfl, rfl, by show 4 ≤ sizeLine; decide, fun t7 nt7 => ?_⟩⟩
        exact q _ _ _ (.near (d := 1 + (r6 : Int)) h1 (by omega) (by omega) bz (by omega) (by omega)) ⟨t7, rfl, t, .inl (.inl upd_same), Same.seqT (same_upd nt7) (.inl (.inl (o6 _ _ htp et)))⟩
          (Off.trans (Off.trans (Off.trans o12 o3) (Off.trans o4 (Same.off s5))) (Off.trans o6 (Same.off (same_upd nt7)))) (num_same (same_upd nt7) nu6)
    refine ⟨_, rfl, rfl, _, rfl, ?_⟩
    by_cases h3' : k = 3
    · rw [show decide (V.int (k : Nat) = V.int 3) = true by rw [h3']; rfl]
      exact iteT (iteT near)
    rw [show decide (V.int (k : Nat) = V.int 3) = false from (kd 3).trans (decide_eq_false h3')]
    refine iteF ?_
    refine ⟨_, rfl, rfl, _, rfl, ?_⟩
    by_cases h4' : k = 4
    · rw [show decide (V.int (k : Nat) = V.int 4) = true by rw [h4']; rfl]
      exact iteT near
    rw [show decide (V.int (k : Nat) = V.int 4) = false from (kd 4).trans (decide_eq_false h4')]
    refine iteF ?_
    refine ⟨_, rfl, rfl, _, rfl, ?_⟩
    by_cases h5' : k = 5
    · rw [show decide (V.int (k : Nat) = V.int 5) = true by rw [h5']; rfl]
      refine iteT ?_
      refine ⟨_, rfl, p, 50, rfl, nu2, by decide, fun r H3 hr3 o3 nu3 => ⟨_, _, rfl, rfl, ?_⟩⟩
      obtain ⟨z, hz, z1, z50⟩ : ∃ z : Int, 1 + (r : Int) = z ∧ 1 ≤ z ∧ z ≤ 50 := ⟨_, rfl, by omega, by omega⟩
      dsimp only
      rw [hz]
      refine ⟨_, rfl, _, rfl, by show 2 ≤ sizeLine; decide, fun a1 na1 => ?_⟩
      have s1 := same_upd (o := .lst [V.int z, V.int 1]) na1
      have e1 : (upd H3 a1 (.lst [V.int z, V.int 1])) a1 = some (.lst [V.int z, V.int 1]) := upd_same
      generalize upd H3 a1 (.lst [V.int z, V.int 1]) = H4 at s1 e1 ⊢
      refine ⟨_, rfl, _, _, rfl, rfl, by show 2 ≤ sizeLine; decide, fun a2 na2 => ?_⟩
      have s2 := same_upd (o := .lst [V.int 1, V.int (z + 1)]) na2
      have e2 : (upd H4 a2 (.lst [V.int 1, V.int (z + 1)])) a2 = some (.lst [V.int 1, V.int (z + 1)]) := upd_same
      generalize upd H4 a2 (.lst [V.int 1, V.int (z + 1)]) = H5 at s2 e2 ⊢
      refine ⟨by show 2 ≤ sizeLine; decide, fun a3 na3 => ?_⟩
      have s3 := same_upd (o := .lst [V.ref a1, V.ref a2]) na3
      have e3 : (upd H5 a3 (.lst [V.ref a1, V.ref a2])) a3 = some (.lst [V.ref a1, V.ref a2]) := upd_same
      generalize upd H5 a3 (.lst [V.ref a1, V.ref a2]) = H6 at s3 e3 ⊢
      intro x7 xd7 nx7 nxd7 nex7
      refine make_lat (m := [[z, 1], [1, z + 1]]) (n := 2) nx7 nxd7 (.inl (.inl e3)) (.cons ⟨a1, rfl, .inl (.inl (.inl (s3 _ _ (s2 _ _ e1))))⟩ (.cons ⟨a2, rfl, .inl (.inl (.inl (s3 _ _ e2)))⟩ .nil)) (gram_let z1 z50) fun H7 s7 L7 => ⟨rfl, ?_⟩
      refine ⟨by show 3 ≤ sizeLine; decide, fun t nt => ?_⟩
      have s37 := s1.trans (s2.trans (s3.trans s7))
      exact q _ _ _ (.lat h1 z1 z50) ⟨t, .ref x7, rfl, .inl (.inl upd_same), IsLat.same (same_upd nt) L7⟩ (Off.trans (Off.trans o12 o3) (Same.off (s37.trans (same_upd nt)))) (num_same (s37.trans (same_upd nt)) nu3)
    rw [show decide (V.int (k : Nat) = V.int 5) = false from (kd 5).trans (decide_eq_false h5')]
    refine iteF ?_
    refine ⟨by show 5 ≤ sizeLine; decide, fun a na => ?_⟩
    have s1 := same_upd (o := .lst (aloneL.map V.str)) na
    have e1 : (upd H2 a (.lst (aloneL.map V.str))) a = some (.lst (aloneL.map V.str)) := upd_same
    have ne := num_ne nu2 na
    refine ⟨_, rfl, p, 5, rfl, num_same s1 nu2, by decide, fun r H3 hr3 o3 nu3 => ?_⟩
    have lt : r < aloneL.length := hr3
    have ge : (aloneL.map V.str)[r]? = some (.str aloneL[r]) := by rw [List.getElem?_map, List.getElem?_eq_getElem lt]; rfl
    refine ⟨a, _, _, _, rfl, rfl, .inl (.inl (o3 _ _ ne e1)), at_of (j := r) rfl ge, _, rfl, by show 2 ≤ sizeLine; decide, fun t nt => ?_⟩
    exact q _ _ _ (.alone (List.getElem_mem lt) h1) ⟨t, rfl, .inl (.inl upd_same)⟩ (Off.trans (Off.trans o12 (Off.trans (Same.off s1) o3)) (Same.off (same_upd nt))) (num_same (same_upd nt) nu3)
theorem cal_law_command (T : Top K mg) (hN : base.NoSeer) (hT : P.given.tree = none) : Cal P w K mg base 47 "_law_command" (sp_law_command K T.C_Grid T.C_Lattice) [] := ⟨⟨_, _, _, [], ok_law_command T hN hT, T.g_law_command, T.F_law_command.kp, T.b_law_command, .nil⟩⟩

end
end K50
namespace K50
open PySem PySem.Spec PyProof.Rows L2 Gm
open C8 (Cal Met Mak pe_c pe_mt pe_mt0 pe_mk)
section
variable {P : Program} {w : World} {K : PySem.W.Frag} {mg : Str → Option Value} {base : Heap}
def wordsC : LC → List Str
  | .cmd (.alone w n) => [w, n]
  | .cmd (.alike n k) => ["alike", n, k]
  | .cmd (.num w n z) => [w, n, numS z]
  | .cmd (.near n a d) => (["nearest", n] : List Str) ++ a.map numS ++ (["/", numS d] : List Str)
  | .lat n z => ["let", n, "=", textS [[z, 1], [1, z + 1]]]
def sp_law_words (K : PySem.W.Frag) (CG CL : Addr) : Sp := fun vs H Q _ => ∃ v c, vs = [v] ∧ GoodC c ∧ IsLC K CG CL H v c ∧ ∀ a H', Same H H' → H' a = some (.lst ((wordsC c).map V.str)) → H a = none → Q (.ref a) H'
theorem ok_law_words (T : Top K mg) (hN : base.NoSeer) (hT : P.given.tree = none) : FnOk P w K mg base CX0 5 T.a_law_words T.d_law_words ["command"] (sp_law_words K T.C_Grid T.C_Lattice) := by
  refine T.F_law_words.ok sc_law_words (fun vs H Q E h => ?_) (fun cdv A outer s H vs Q E hr h => ?_)
  · obtain ⟨v, c, rfl, _⟩ := h
    rfl
  · obtain ⟨v, c, rfl, g, hc, q⟩ := h
    refine ⟨_, (pss_cons (ps_if (pt_cmpR op_eq (pe_ix (ixT K rfl) (pv 0) pe_int (fun _ _ => rfl)) pe_str (nomark _))
      (pss_one (ps_ret (pe_op op_cat (pe_op op_cat (pe_lst (pa_cons pe_str (pa_cons (pe_ix (ixT K rfl) (pv 0) pe_int (fun _ _ => rfl)) pa_nil))) (pe_lc (own := [("x", 1)]) (g := (gName 1)) (by rfl) sc_law_words.nd (piS K rfl (pe_ix (ixT K rfl) (pv 0) pe_int (fun _ _ => rfl))) ((by show BlkOk ["command", "x", "part"] (defScope s_law_words) _ _; exact blkOk_by (by decide +kernel))) (fun _ _ _ _ _ => (pg_name (i := 1) sc_law_words.nd rfl (by first | exact .inl rfl | exact .inr rfl))) (fun _ _ _ _ _ => pts_nil) (fun _ _ _ _ _ => (pe_callTy call_str_int (by rfl) T.z_str (by decide +kernel) (pa_cons (pv 1) pa_nil))))) (pe_lst (pa_cons pe_str (pa_cons (pe_callTy call_str_int (by rfl) T.z_str (by decide +kernel) (pa_cons (pe_ix (ixT K rfl) (pv 0) pe_int (fun _ _ => rfl)) pa_nil)) pa_nil))))))
      pss_nil)
      (pss_cons (ps_if (pt_cmpR op_eq (pe_ix (ixT K rfl) (pv 0) pe_int (fun _ _ => rfl)) pe_str (nomark _))
      (pss_one (ps_ret (pe_lst (pa_cons pe_str (pa_cons (pe_ix (ixT K rfl) (pv 0) pe_int (fun _ _ => rfl)) (pa_cons pe_str (pa_cons (pe_callTy (call_ownStr (E := L2.E0) T.m_Lattice_str.at_ T.m_Lattice_str.fn (ok_Lattice_str T hN hT) (hr.mono (by decide)) T.b_Lattice_str (fun _ _ _ _ h => h.elim)) (by rfl) T.z_str (by decide +kernel) (pa_cons (pe_ix (ixT K rfl) (pv 0) pe_int (fun _ _ => rfl)) pa_nil)) pa_nil)))))))
      pss_nil)
      (pss_one (ps_ret (pe_lc (own := [("part", 2)]) (g := (gName 2)) (by rfl) sc_law_words.nd (piS K rfl (pv 0)) ((by show BlkOk ["command", "x", "part"] (defScope s_law_words) _ _; exact blkOk_by (by decide +kernel))) (fun _ _ _ _ _ => (pg_name (i := 2) sc_law_words.nd rfl (by first | exact .inl rfl | exact .inr rfl))) (fun _ _ _ _ _ => pts_nil) (fun _ _ _ _ _ => (pe_callTy call_str_e (by rfl) T.z_str (by decide +kernel) (pa_cons (pv 2) pa_nil)))))))), ?_⟩
    have hz : 100000 ≤ sizeLine := by decide
    have strE : ∀ {x c : Str} {A B : Prop}, (x = c → A) → (x ≠ c → B) → if decide (V.str x = V.str c) = true then A else B := fun {x c A B} h1 h2 => by
      by_cases h : x = c
      · rw [decide_eq_true (congrArg V.str h)]
        exact iteT (h1 h)
      · rw [decide_eq_false fun z => h (V.str.inj z)]
        exact iteF (h2 h)
    -- words and numbers alone
    have flat : ∀ {t : Addr} {xs : List V} {ys : List Str}, SqT K H t xs → ys.length ≤ 5 → xs.length = ys.length → (∀ i x, xs[i]? = some x → ∃ y, ys[i]? = some y ∧ ((x = V.str y) ∨ ∃ z : Int, x = V.int z ∧ y = numS z ∧ -400 ≤ z ∧ z ≤ 2400)) → (∀ a H', Same H H' → H' a = some (.lst (ys.map V.str)) → H a = none → Q (.ref a) H') →
        tRet (tLc (iSeq K (tVar 0)) (gName 2) tYes (tCB (fun xs H Q => (∃ i, xs = [V.int i] ∧ i.natAbs.log2 < 1920 ∧ Q (V.str (numS i)) H) ∨ ∃ a, xs = [V.str a] ∧ Q (V.str a) H) (tCons (tVar 2) tNil)) [2]) { nx := fun _ H' => Q V.non H', rt := Q } (L2.start ["command", "x", "part"] [.ref t]) H := fun {t xs ys} hx hl le hy q => by
      refine ⟨_, rfl, t, xs, rfl, .inr hx, fun J G W hG D hD => ?_⟩
      refine lc_all W hD (by omega) (fun H1 s1 => hG H1 fun b _ o => s1 b o) (fun i v _ => ∃ y, ys[i]? = some y ∧ v = .str y) (fun _ _ _ _ _ _ _ h => h) ?_ gm_name ?_
      · rintro i x H1 H1' acc Ko hi s1 eD ⟨rfl, ex⟩ kk
        obtain ⟨y, ey, h⟩ := hy i x ex
        refine ⟨rfl, ?_⟩
        refine ⟨_, rfl, ?_⟩
        rcases h with rfl | ⟨z, rfl, rfl, z1, z2⟩
        · exact .inr ⟨y, rfl, kk _ _ (Same.refl _) ⟨y, ey, rfl⟩⟩
        · exact .inl ⟨z, rfl, good_log z1 z2, kk _ _ (Same.refl _) ⟨_, ey, rfl⟩⟩
      intro H1 l1 s1 eD hpl
      have el : l1 = ys.map V.str := vals_list (f := V.str) le.symm hpl
      subst el
      exact q D H1 s1 eD hD
    cases g with
    | @alone w n hw hn =>
      obtain ⟨t, rfl, hx⟩ := hc
      have hx : SqT K H t [.str w, .str n] := hx
      have n1 : w ≠ ("nearest" : Str) := fun e => by rw [e] at hw; exact absurd hw (by decide +kernel)
      have n2 : w ≠ ("let" : Str) := fun e => by rw [e] at hw; exact absurd hw (by decide +kernel)
      refine ⟨_, rfl, t, _, _, _, rfl, rfl, hx, at_of (j := 0) rfl rfl, rfl, _, rfl, ?_⟩
      refine strE (fun h => absurd h n1) fun _ => ?_
      refine ⟨_, rfl, t, _, _, _, rfl, rfl, hx, at_of (j := 0) rfl rfl, rfl, _, rfl, ?_⟩
      refine strE (fun h => absurd h n2) fun _ => ?_
      exact flat (ys := [w, n]) hx (by show 2 ≤ 5; decide) rfl (fun i x e => by
        rcases i with _ | _ | i
        · cases e; exact ⟨w, rfl, .inl rfl⟩
        · cases e; exact ⟨n, rfl, .inl rfl⟩
        · cases e) q
    | @alike n k hn hk =>
      obtain ⟨t, rfl, hx⟩ := hc
      have hx : SqT K H t [.str "alike", .str n, .str k] := hx
      refine ⟨_, rfl, t, _, _, _, rfl, rfl, hx, at_of (j := 0) rfl rfl, rfl, _, rfl, ?_⟩
      refine strE (fun h => absurd h (by decide +kernel)) fun _ => ?_
      refine ⟨_, rfl, t, _, _, _, rfl, rfl, hx, at_of (j := 0) rfl rfl, rfl, _, rfl, ?_⟩
      refine strE (fun h => absurd h (by decide +kernel)) fun _ => ?_
      exact flat (ys := ["alike", n, k]) hx (by show 3 ≤ 5; decide) rfl (fun i x e => by
        rcases i with _ | _ | _ | i
        · cases e; exact ⟨_, rfl, .inl rfl⟩
        · cases e; exact ⟨_, rfl, .inl rfl⟩
        · cases e; exact ⟨_, rfl, .inl rfl⟩
        · cases e) q
    | @short n z hn z0 z9 =>
      obtain ⟨t, rfl, hx⟩ := hc
      have hx : SqT K H t [.str "short", .str n, .int z] := hx
      refine ⟨_, rfl, t, _, _, _, rfl, rfl, hx, at_of (j := 0) rfl rfl, rfl, _, rfl, ?_⟩
      refine strE (fun h => absurd h (by decide +kernel)) fun _ => ?_
      refine ⟨_, rfl, t, _, _, _, rfl, rfl, hx, at_of (j := 0) rfl rfl, rfl, _, rfl, ?_⟩
      refine strE (fun h => absurd h (by decide +kernel)) fun _ => ?_
      exact flat (ys := ["short", n, numS z]) hx (by show 3 ≤ 5; decide) rfl (fun i x e => by
        rcases i with _ | _ | _ | i
        · cases e; exact ⟨_, rfl, .inl rfl⟩
        · cases e; exact ⟨_, rfl, .inl rfl⟩
        · cases e; exact ⟨_, rfl, .inr ⟨z, rfl, rfl, by omega, by omega⟩⟩
        · cases e) q
    | @below n z hn z0 z9 =>
      obtain ⟨t, rfl, hx⟩ := hc
      have hx : SqT K H t [.str "below", .str n, .int z] := hx
      refine ⟨_, rfl, t, _, _, _, rfl, rfl, hx, at_of (j := 0) rfl rfl, rfl, _, rfl, ?_⟩
      refine strE (fun h => absurd h (by decide +kernel)) fun _ => ?_
      refine ⟨_, rfl, t, _, _, _, rfl, rfl, hx, at_of (j := 0) rfl rfl, rfl, _, rfl, ?_⟩
      refine strE (fun h => absurd h (by decide +kernel)) fun _ => ?_
      exact flat (ys := ["below", n, numS z]) hx (by show 3 ≤ 5; decide) rfl (fun i x e => by
        rcases i with _ | _ | _ | i
        · cases e; exact ⟨_, rfl, .inl rfl⟩
        · cases e; exact ⟨_, rfl, .inl rfl⟩
        · cases e; exact ⟨_, rfl, .inr ⟨z, rfl, rfl, by omega, by omega⟩⟩
        · cases e) q
    | @near n a d hn a0 a3 ha d1 d9 =>
      obtain ⟨t, rfl, ta, hx, hta⟩ := hc
      refine ⟨_, rfl, t, _, _, _, rfl, rfl, hx, at_of (j := 0) rfl rfl, rfl, _, rfl, ?_⟩
      refine strE (fun _ => ?_) (fun h => absurd rfl h)
      refine ⟨_, rfl, t, _, _, _, rfl, rfl, hx, at_of (j := 1) rfl rfl, by show 2 ≤ sizeLine; decide, fun a1 na1 => ?_⟩
      have s1 := same_upd (o := .lst [V.str "nearest", V.str n]) na1
      have e1 : (upd H a1 (.lst [V.str "nearest", V.str n])) a1 = some (.lst [V.str "nearest", V.str n]) := upd_same
      generalize upd H a1 (.lst [V.str "nearest", V.str n]) = H1 at s1 e1 ⊢
      have hx1 := Same.seqT s1 hx
      have hta1 := Same.seqT s1 hta
      refine ⟨_, rfl, t, _, _, _, rfl, rfl, hx1, at_of (j := 2) rfl rfl, ta, _, rfl, .inr hta1, fun J G W hG D hD => ?_⟩
      refine lc_all W hD (by rw [List.length_map]; omega) (fun H2 s2 => hG H2 fun b _ o => s2 b o) (fun i v _ => ∃ z, a[i]? = some z ∧ v = .str (numS z)) (fun _ _ _ _ _ _ _ h => h) ?_ gm_name ?_
      · rintro i x H2 H2' acc Ko hi s2 eD ⟨rfl, ex⟩ kk
        obtain ⟨z, ez, rfl⟩ := ints_get ex
        have hz' := ha z (List.mem_of_getElem? ez)
        refine ⟨rfl, ?_⟩
        exact ⟨_, rfl, z, rfl, good_log (by omega) (by omega), kk _ _ (Same.refl _) ⟨z, ez, rfl⟩⟩
      intro H2 l2 s2 eD hpl
      have el : l2 = (a.map numS).map V.str := by rw [List.map_map]; exact vals_list (f := fun z => .str (numS z)) (by rw [List.length_map]) hpl
      subst el
      have s12 := s1.trans s2
      refine ⟨a1, D, _, _, rfl, rfl, s2 _ _ e1, eD, by rw [List.length_map, List.length_map]; show 2 + a.length ≤ sizeLine; omega, fun a3' na3 => ?_⟩
      have s3 := same_upd (o := .lst ([V.str "nearest", V.str n] ++ (a.map numS).map V.str)) na3
      have e3 : (upd H2 a3' (.lst ([V.str "nearest", V.str n] ++ (a.map numS).map V.str))) a3' = some (.lst ([V.str "nearest", V.str n] ++ (a.map numS).map V.str)) := upd_same
      generalize upd H2 a3' (.lst ([V.str "nearest", V.str n] ++ (a.map numS).map V.str)) = H3 at s3 e3 ⊢
      have s13 := s12.trans s3
      refine ⟨_, rfl, t, _, _, _, rfl, rfl, Same.seqT s13 hx, at_of (j := 3) rfl rfl, d, rfl, good_log (by omega) (by omega), by show 2 ≤ sizeLine; decide, fun a4 na4 => ?_⟩
      have s4 := same_upd (o := .lst [V.str "/", V.str (numS d)]) na4
      refine ⟨a3', a4, _, _, rfl, rfl, s4 _ _ e3, upd_same, by rw [List.length_append, List.length_map, List.length_map]; show 2 + a.length + 2 ≤ sizeLine; omega, fun a5 na5 => ?_⟩
      have s14 := s13.trans s4
      refine q a5 _ (s14.trans (same_upd na5)) ?_ ?_
      · rw [upd_same]
        show some (HO.lst _) = some (HO.lst (((["nearest", n] : List Str) ++ a.map numS ++ (["/", numS d] : List Str)).map V.str))
        rw [List.map_append, List.map_append]
        rfl
      · cases h : H a5 with
        | none => rfl
        | some o => exact absurd ((s14 _ _ h).symm.trans na5) (fun z => by cases z)
    | @lat n z hn z1 z50 =>
      obtain ⟨t, lv, rfl, hx, L⟩ := hc
      refine ⟨_, rfl, t, _, _, _, rfl, rfl, hx, at_of (j := 0) rfl rfl, rfl, _, rfl, ?_⟩
      refine strE (fun h => absurd h (by decide +kernel)) fun _ => ?_
      refine ⟨_, rfl, t, _, _, _, rfl, rfl, hx, at_of (j := 0) rfl rfl, rfl, _, rfl, ?_⟩
      refine strE (fun _ => ?_) (fun h => absurd rfl h)
      obtain ⟨pl, dl, gl, rfl, hol, Gl⟩ := L.obj
      have few : Few [[z, 1], [1, z + 1]] := ⟨by show 2 ≤ 3; decide, by show 0 < 2; decide, fun r hr => by simp at hr; rcases hr with rfl | rfl <;> rfl, fun r hr x hx => by simp at hr; rcases hr with rfl | rfl <;> simp at hx <;> rcases hx with rfl | rfl <;> omega, fun r hr x hx => by simp at hr; rcases hr with rfl | rfl <;> simp at hx <;> rcases hx with rfl | rfl <;> omega⟩
      refine ⟨_, rfl, t, _, _, _, rfl, rfl, hx, at_of (j := 1) rfl rfl, _, rfl, t, _, _, _, rfl, rfl, hx, at_of (j := 2) rfl rfl, pl, dl, _, rfl, hol, .ref pl, _, 2, rfl, L, few, fun H1 s1 => ⟨_, rfl, ?_⟩⟩
      refine ⟨by show 4 ≤ sizeLine; decide, fun a na => ?_⟩
      refine q a _ (s1.trans (same_upd na)) upd_same ?_
      cases h : H a with
      | none => rfl
      | some o => rw [s1 _ _ h] at na; cases na
theorem cal_law_words (T : Top K mg) (hN : base.NoSeer) (hT : P.given.tree = none) : Cal P w K mg base 5 "_law_words" (sp_law_words K T.C_Grid T.C_Lattice) [] := ⟨⟨_, _, _, [], ok_law_words T hN hT, T.g_law_words, T.F_law_words.kp, T.b_law_words, .nil⟩⟩

end
end K50
namespace K50
open PySem PySem.Spec PyProof.Rows L2 Gm
open C8 (Cal Met Mak pe_c pe_mt pe_mt0 pe_mk)
section
variable {P : Program} {w : World} {K : PySem.W.Frag} {mg : Str → Option Value} {base : Heap}
/-! ### words and lines -/
def okS (c : Nat) : Bool := okSign c && !decide (c = 35)
def plainB (w : Str) : Bool := decide (TL.tl w ≠ []) && (TL.tl w).all fun c => okS c && !Unicode.isSpace c
theorem plain_W {w : Str} (h : plainB w = true) : PlainW w ∧ ∀ c ∈ TL.tl w, okS c = true := by
  unfold plainB at h
  rw [Bool.and_eq_true, List.all_eq_true] at h
  refine ⟨⟨of_decide_eq_true h.1, fun c hc => ?_⟩, fun c hc => ?_⟩
  · have := h.2 c hc
    rw [Bool.and_eq_true] at this
    simpa using this.2
  · have := h.2 c hc
    rw [Bool.and_eq_true] at this
    exact this.1
theorem blank_ok : ∀ {n c : Nat}, c ∈ List.replicate n 32 → okS c = true := fun {n c} h => by
  rw [(List.mem_replicate.mp h).2]
  decide
theorem space_tl {s : Str} (h : s ∈ spaceL) : ∃ n, 0 < n ∧ n ≤ 3 ∧ TL.tl s = List.replicate n 32 := by
  unfold spaceL at h
  simp only [List.mem_cons, List.not_mem_nil, or_false] at h
  rcases h with rfl | rfl | rfl
  · exact ⟨1, by decide, by decide, rfl⟩
  · exact ⟨2, by decide, by decide, rfl⟩
  · exact ⟨3, by decide, by decide, rfl⟩
theorem glue_ok : ∀ {ps : List (Str × Str)}, (∀ q ∈ ps, q.1 ∈ spaceL ∧ ∀ c ∈ TL.tl q.2, okS c = true) → ∀ c ∈ glueS ps, okS c = true
  | [], _, c, hc => by cases hc
  | (s, w) :: r, h, c, hc => by
    have hc : c ∈ TL.tl s ++ (TL.tl w ++ glueS r) := hc
    obtain ⟨hs, hw⟩ := h (s, w) (List.mem_cons_self ..)
    rcases List.mem_append.mp hc with hc | hc
    · obtain ⟨n, _, _, e⟩ := space_tl hs
      have hs' : TL.tl s = List.replicate n 32 := e
      rw [hs'] at hc
      exact blank_ok hc
    · rcases List.mem_append.mp hc with hc | hc
      · exact hw c hc
      · exact glue_ok (fun q hq => h q (List.mem_cons_of_mem _ hq)) c hc
theorem line_good {x : Str} (h : ∀ c ∈ TL.tl x, okS c = true) : isLineB x = true ∧ Txt.startswith x ("#" : Str) = false := by
  have h1 : ∀ c ∈ TL.tl x, okSign c = true ∧ c ≠ 35 := fun c hc => by
    have := h c hc
    unfold okS at this
    rw [Bool.and_eq_true] at this
    exact ⟨this.1, by simpa using this.2⟩
  refine ⟨List.all_eq_true.mpr fun c hc => (h1 c hc).1, ?_⟩
  unfold Txt.startswith
  rw [sub0 (a := 35) rfl]
  cases e : (TL.tl x).take 1 == [35] with
  | false => rw [Bool.and_false]
  | true =>
    exfalso
    have e := eq_of_beq e
    cases hx : TL.tl x with
    | nil => rw [hx] at e; cases e
    | cons c q =>
      rw [hx] at e
      injection e with e
      exact (h1 c (by rw [hx]; exact List.mem_cons_self ..)).2 e
theorem name_plain : ∀ n ∈ nameL, plainB n = true ∧ isNameB n = true ∧ n.length ≤ 8 := by decide +kernel
theorem num_all : (List.range 1000).all (fun k => plainB (numS ((k : Nat) - 60)) && isNum4 (numS ((k : Nat) - 60)) && (intText? (numS ((k : Nat) - 60)) == some (((k : Nat) : Int) - 60)) && decide ((numS ((k : Nat) - 60)).length ≤ 4)) = true := by decide +kernel
structure NumW (z : Int) : Prop where
  plain : plainB (numS z) = true
  num : isNum4 (numS z) = true
  val : numV (numS z) = z
  len : (numS z).length ≤ 4
theorem num_W {z : Int} (h1 : -60 ≤ z) (h2 : z ≤ 900) : NumW z := by
  have h := List.all_eq_true.mp num_all (z + 60).toNat (List.mem_range.mpr (by omega))
  rw [show (((z + 60).toNat : Nat) : Int) - 60 = z by omega] at h
  simp only [Bool.and_eq_true, decide_eq_true_eq, beq_iff_eq] at h
  exact ⟨h.1.1.1, h.1.1.2, by unfold numV; rw [h.1.2]; rfl, h.2⟩
theorem num_if {z l : Int} (h : NumW z) (hl : l ≤ z) : numIf (numS z) l = true := by
  unfold numIf
  rw [h.num, h.val, decide_eq_true hl]
  rfl
/-! ### what is not said of a line -/
theorem readW_none {w : Str} {rs : List Str} (h : isNameB (rs.getD 0 "") = false) : readW w rs = none := by
  unfold readW
  simp only [h, Bool.false_eq_true, if_false, ite_self]
theorem readN_none {rs : List Str} (h : isNameB (rs.getD 0 "") = false) : readN rs = none := by
  unfold readN
  rw [if_neg (Bool.eq_false_iff.mp h)]
def oddB (w : Str) : Bool := !inV (.str w) (aloneL.map V.str) && (!decide (w = ("alike" : Str)) && (!decide (w = ("short" : Str)) && (!decide (w = ("below" : Str)) && (!decide (w = ("nearest" : Str)) && !decide (w = ("let" : Str))))))
theorem odd_none {w : Str} {rs : List Str} (h : oddB w = true) : readW w rs = none ∧ ¬ isNear w rs ∧ w ≠ ("let" : Str) := by
  unfold oddB at h
  simp only [Bool.and_eq_true, Bool.not_eq_true', decide_eq_false_iff_not] at h
  obtain ⟨h1, h2, h3, h4, h5, h6⟩ := h
  refine ⟨?_, fun z => h5 z.1, h6⟩
  unfold readW
  rw [if_neg (fun z => by rw [h1] at z; exact absurd z.1 (by decide)), if_neg (fun z => h2 z.1), if_neg (fun z => h3 z.1), if_neg (fun z => h4 z.1)]
/-- a line that begins with no let -/
theorem line_cmd {K : PySem.W.Frag} {CG CL XM XR X : Addr} {x w0 : Str} {ps : List (Str × Str)} {i j : Nat} {H : Hp} {Q : VK} {E : XK} (e : TL.tl x = List.replicate i 32 ++ ((TL.tl w0 ++ glueS ps) ++ List.replicate j 32)) (hl : x.length ≤ 900)
    (h0 : plainB w0 = true) (hp : ∀ q ∈ ps, q.1 ∈ spaceL ∧ plainB q.2 = true) (hlet : w0 ≠ ("let" : Str)) (h : ∀ H1 a, Same H H1 → SqL K H1 a ((ps.map Prod.snd).map V.str) → sp_read_words_ALL K X [.str w0, .ref a] H1 Q E) :
    sp_read_line K CG CL XM XR X [.str x] H Q E := by
  have g0 := plain_W h0
  have gp : ∀ q ∈ ps, q.1 ∈ spaceL ∧ PlainW q.2 ∧ ∀ c ∈ TL.tl q.2, okS c = true := fun q hq => ⟨(hp q hq).1, plain_W (hp q hq).2⟩
  have ok : ∀ c ∈ TL.tl x, okS c = true := fun c hc => by
    rw [e] at hc
    rcases List.mem_append.mp hc with hc | hc
    · exact blank_ok hc
    · rcases List.mem_append.mp hc with hc | hc
      · rcases List.mem_append.mp hc with hc | hc
        · exact g0.2 c hc
        · exact glue_ok (fun q hq => ⟨(gp q hq).1, (gp q hq).2.2⟩) c hc
      · exact blank_ok hc
  obtain ⟨l1, l2⟩ := line_good ok
  refine ⟨.str x, rfl, .inr ⟨x, rfl, hl, l1, .inr ⟨l2, w0, ps.map Prod.snd, line_words e g0.1 fun q hq => ⟨(gp q hq).1, (gp q hq).2.1⟩, .inr ⟨hlet, h⟩⟩⟩⟩
/-- a line that begins with let -/
theorem line_let {K : PySem.W.Frag} {CG CL XM XR X : Addr} {x w0 : Str} {ps : List (Str × Str)} {i j : Nat} {H : Hp} {Q : VK} {E : XK} (e : TL.tl x = List.replicate i 32 ++ ((TL.tl w0 ++ glueS ps) ++ List.replicate j 32)) (hl : x.length ≤ 900)
    (h0 : plainB w0 = true) (hp : ∀ q ∈ ps, q.1 ∈ spaceL ∧ plainB q.2 = true) (hlet : w0 = ("let" : Str)) (h : ∀ H1, Same H H1 → sp_read_let K CG CL XM XR X [.str x] H1 Q E) :
    sp_read_line K CG CL XM XR X [.str x] H Q E := by
  have g0 := plain_W h0
  have gp : ∀ q ∈ ps, q.1 ∈ spaceL ∧ PlainW q.2 ∧ ∀ c ∈ TL.tl q.2, okS c = true := fun q hq => ⟨(hp q hq).1, plain_W (hp q hq).2⟩
  have ok : ∀ c ∈ TL.tl x, okS c = true := fun c hc => by
    rw [e] at hc
    rcases List.mem_append.mp hc with hc | hc
    · exact blank_ok hc
    · rcases List.mem_append.mp hc with hc | hc
      · rcases List.mem_append.mp hc with hc | hc
        · exact g0.2 c hc
        · exact glue_ok (fun q hq => ⟨(gp q hq).1, (gp q hq).2.2⟩) c hc
      · exact blank_ok hc
  obtain ⟨l1, l2⟩ := line_good ok
  exact ⟨.str x, rfl, .inr ⟨x, rfl, hl, l1, .inr ⟨l2, w0, ps.map Prod.snd, line_words e g0.1 fun q hq => ⟨(gp q hq).1, (gp q hq).2.1⟩, .inl ⟨hlet, h⟩⟩⟩⟩

end
end K50
namespace K50
open PySem PySem.Spec PyProof.Rows L2 Gm
open C8 (Cal Met Mak pe_c pe_mt pe_mt0 pe_mk)
section
variable {P : Program} {w : World} {K : PySem.W.Frag} {mg : Str → Option Value} {base : Heap}
/-! ### commands read back -/
structure CmdW (c : Cmd) (w0 : Str) (rest : List Str) : Prop where
  eq : wordsC (.cmd c) = w0 :: rest
  p0 : plainB w0 = true
  pr : ∀ r ∈ rest, plainB r = true
  l0 : w0.length ≤ 8
  lr : ∀ r ∈ rest, r.length ≤ 8
  ln : rest.length ≤ 6
  nl : w0 ≠ ("let" : Str)
  rd : (¬ isNear w0 rest ∧ readW w0 rest = some c) ∨ (w0 = ("nearest" : Str) ∧ isNear w0 rest ∧ (∀ r ∈ ptsOf rest, numIf r (-9999) = true) ∧ readN rest = some c)
def firstB (w : Str) : Bool := plainB w && (decide (w.length ≤ 8) && (oddB (Txt.upper w) && (plainB (Txt.upper w) && decide ((Txt.upper w).length ≤ 8))))
theorem alone_facts : ∀ w ∈ aloneL, firstB w = true ∧ inV (.str w) (aloneL.map V.str) = true ∧ decide (w = ("let" : Str)) = false ∧ decide (w = ("nearest" : Str)) = false ∧ decide (w = ("alike" : Str)) = false ∧ decide (w = ("short" : Str)) = false ∧ decide (w = ("below" : Str)) = false := by decide +kernel
theorem first_facts : ∀ w ∈ (["alike", "short", "below", "nearest", "let"] : List Str), firstB w = true := by decide +kernel
structure FirstW (w : Str) : Prop where
  p : plainB w = true
  l : w.length ≤ 8
  u : oddB (Txt.upper w) = true
  pu : plainB (Txt.upper w) = true
  lu : (Txt.upper w).length ≤ 8
theorem first_W {w : Str} (h : firstB w = true) : FirstW w := by
  unfold firstB at h
  simp only [Bool.and_eq_true, decide_eq_true_eq] at h
  exact ⟨h.1, h.2.1, h.2.2.1, h.2.2.2.1, h.2.2.2.2⟩
theorem two_all {P : Str → Prop} {a b : Str} (ha : P a) (hb : P b) : ∀ r ∈ [a, b], P r := fun r hr => by
  simp only [List.mem_cons, List.not_mem_nil, or_false] at hr
  rcases hr with rfl | rfl
  · exact ha
  · exact hb
theorem good_W {c : Cmd} (g : GoodC (.cmd c)) : ∃ w0 rest, CmdW c w0 rest ∧ FirstW w0 ∧ isNameB (rest.getD 0 "") = true := by
  cases g with
  | @alone w n hw hn =>
    obtain ⟨f, f1, f2, f3, _⟩ := alone_facts w hw
    obtain ⟨n1, n2, n3⟩ := name_plain n hn
    have F := first_W f
    refine ⟨w, [n], ⟨rfl, F.p, fun r hr => by rw [List.mem_singleton.mp hr]; exact n1, F.l, fun r hr => by rw [List.mem_singleton.mp hr]; exact n3, by show 1 ≤ 6; decide, by simpa using f2, .inl ⟨fun z => by have := z.2.1; have : 3 < 1 := this; omega, ?_⟩⟩, F, n2⟩
    unfold readW
    rw [if_pos ⟨f1, rfl⟩]
    show (if isNameB n = true then some (Cmd.alone w n) else none) = _
    rw [if_pos n2]
  | @alike n k hn hk =>
    have F := first_W (first_facts "alike" (by decide))
    obtain ⟨n1, n2, n3⟩ := name_plain n hn
    obtain ⟨k1, k2, k3⟩ := name_plain k hk
    refine ⟨"alike", [n, k], ⟨rfl, F.p, two_all n1 k1, F.l, two_all n3 k3, by show 2 ≤ 6; decide, by decide, .inl ⟨fun z => by have := z.2.1; have : 3 < 2 := this; omega, ?_⟩⟩, F, n2⟩
    unfold readW
    rw [if_neg (fun z => absurd z.1 (by decide +kernel)), if_pos ⟨rfl, rfl⟩]
    show (if isNameB n = true then (if isNameB k = true then some (Cmd.alike n k) else none) else none) = _
    rw [if_pos n2, if_pos k2]
  | @short n z hn z0 z9 =>
    have F := first_W (first_facts "short" (by decide))
    obtain ⟨n1, n2, n3⟩ := name_plain n hn
    have N : NumW z := num_W (by omega) (by omega)
    have Nl := N.len
    refine ⟨"short", [n, numS z], ⟨rfl, F.p, two_all n1 N.plain, F.l, two_all n3 (by omega), by show 2 ≤ 6; decide, by decide, .inl ⟨fun z => by have := z.2.1; have : 3 < 2 := this; omega, ?_⟩⟩, F, n2⟩
    unfold readW
    rw [if_neg (fun z => absurd z.1 (by decide +kernel)), if_neg (fun z => absurd z.1 (by decide)), if_pos ⟨rfl, rfl⟩]
    show (if isNameB n = true then (if numIf (numS z) 0 = true then some (Cmd.num "short" n (numV (numS z))) else none) else none) = _
    rw [if_pos n2, if_pos (num_if N z0), N.val]
  | @below n z hn z0 z9 =>
    have F := first_W (first_facts "below" (by decide))
    obtain ⟨n1, n2, n3⟩ := name_plain n hn
    have N : NumW z := num_W (by omega) (by omega)
    have Nl := N.len
    refine ⟨"below", [n, numS z], ⟨rfl, F.p, two_all n1 N.plain, F.l, two_all n3 (by omega), by show 2 ≤ 6; decide, by decide, .inl ⟨fun z => by have := z.2.1; have : 3 < 2 := this; omega, ?_⟩⟩, F, n2⟩
    unfold readW
    rw [if_neg (fun z => absurd z.1 (by decide +kernel)), if_neg (fun z => absurd z.1 (by decide)), if_neg (fun z => absurd z.1 (by decide)), if_pos ⟨rfl, rfl⟩]
    show (if isNameB n = true then (if numIf (numS z) 1 = true then some (Cmd.num "below" n (numV (numS z))) else none) else none) = _
    rw [if_pos n2, if_pos (num_if N z0), N.val]
  | @near n a d hn a0 a3 ha d1 d9 =>
    have F := first_W (first_facts "nearest" (by decide))
    obtain ⟨n1, n2, n3⟩ := name_plain n hn
    have N : NumW d := num_W (by omega) (by omega)
    have Na : ∀ x ∈ a, NumW x := fun x hx => num_W (by have := ha x hx; omega) (by have := ha x hx; omega)
    have ia : ∀ x ∈ a, numIf (numS x) (-9999) = true := fun x hx => num_if (Na x hx) (by have := ha x hx; omega)
    have cases3 : ∀ (L : List Str), L = a.map numS → (∃ x, a = [x]) ∨ (∃ x y, a = [x, y]) ∨ ∃ x y z, a = [x, y, z] := fun L _ => by
      rcases a with _ | ⟨x, _ | ⟨y, _ | ⟨z, _ | ⟨t, r⟩⟩⟩⟩
      · exact absurd a0 (by decide)
      · exact .inl ⟨x, rfl⟩
      · exact .inr (.inl ⟨x, y, rfl⟩)
      · exact .inr (.inr ⟨x, y, z, rfl⟩)
      · exact absurd a3 (by show ¬ r.length + 1 + 1 + 1 + 1 ≤ 3; omega)
    have pts : ptsOf (n :: (a.map numS ++ (["/", numS d] : List Str))) = a.map numS ∧ (n :: (a.map numS ++ (["/", numS d] : List Str))).getD ((n :: (a.map numS ++ (["/", numS d] : List Str))).length - 2) "" = ("/" : Str) ∧ (n :: (a.map numS ++ (["/", numS d] : List Str))).getD ((n :: (a.map numS ++ (["/", numS d] : List Str))).length - 1) "" = numS d := by
      rcases cases3 _ rfl with ⟨x, rfl⟩ | ⟨x, y, rfl⟩ | ⟨x, y, z, rfl⟩ <;> exact ⟨rfl, rfl, rfl⟩
    have ll : (n :: (a.map numS ++ (["/", numS d] : List Str))).length = a.length + 3 := by
      rw [List.length_cons, List.length_append, List.length_map]
      rfl
    have mem : ∀ {P : Str → Prop}, P n → (∀ x ∈ a, P (numS x)) → P ("/" : Str) → P (numS d) → ∀ r ∈ n :: (a.map numS ++ (["/", numS d] : List Str)), P r := fun {P} h1 h2 h3 h4 r hr => by
      rcases List.mem_cons.mp hr with rfl | hr
      · exact h1
      · rcases List.mem_append.mp hr with hr | hr
        · obtain ⟨x, hx, rfl⟩ := List.mem_map.mp hr
          exact h2 x hx
        · exact two_all h3 h4 r hr
    refine ⟨"nearest", n :: (a.map numS ++ (["/", numS d] : List Str)), ⟨rfl, F.p, mem n1 (fun x hx => (Na x hx).plain) (by decide +kernel) N.plain, F.l, mem n3 (fun x hx => by have := (Na x hx).len; omega) (by decide) (by have := N.len; omega), by rw [ll]; omega, by decide,
      .inr ⟨rfl, ⟨rfl, by rw [ll]; omega, pts.2.1⟩, fun r hr => ?_, ?_⟩⟩, F, n2⟩
    · rw [pts.1] at hr
      obtain ⟨x, hx, rfl⟩ := List.mem_map.mp hr
      exact ia x hx
    · unfold readN
      rw [pts.1, pts.2.2]
      show (if isNameB n = true then _ else _) = _
      rw [if_pos n2, if_pos (num_if N d1), N.val, List.map_map]
      have : a.map (numV ∘ numS) = a := by
        conv => rhs; rw [← List.map_id a]
        exact List.map_congr_left fun x hx => (Na x hx).val
      rw [this]
      rfl
theorem CmdW.words {c : Cmd} {w0 : Str} {rest : List Str} (W : CmdW c w0 rest) {K : PySem.W.Frag} {X a : Addr} {H : Hp} {Q : VK} {E : XK} (ha : SqL K H a (rest.map V.str)) (q : ∀ p H', Same H H' → IsCmd K H' p c → Q (.ref p) H') : sp_read_words_ALL K X [.str w0, .ref a] H Q E := by
  have ln := W.ln
  have l0 := W.l0
  rcases W.rd with ⟨h1, h2⟩ | ⟨rfl, h2, h3, h4⟩
  · exact .inl (.inl ⟨w0, a, rest, rfl, ha, by omega, fun r hr => by have := W.lr r hr; omega, by omega, h1, fun c' e p H' s i => q p H' s (by rw [h2] at e; cases e; exact i), fun e => (by rw [h2] at e; cases e)⟩)
  · exact .inl (.inr ⟨a, rest, rfl, ha, by omega, fun r hr => by have := W.lr r hr; omega, h2, h3, fun c' e p H' s i => q p H' s (by rw [h4] at e; cases e; exact i), fun e => (by rw [h4] at e; cases e)⟩)
/-! ### refused lines of words -/
def RefA (K : PySem.W.Frag) (CG CL XM XR X : Addr) (v : V) : Prop := ∀ (H : Hp) (Q : VK) (E : XK), ENo E X H → sp_read_line K CG CL XM XR X [v] H Q E
theorem glue_len {b : Nat} : ∀ {ps : List (Str × Str)}, (∀ q ∈ ps, q.1 ∈ spaceL ∧ q.2.length ≤ b) → (glueS ps).length ≤ ps.length * (b + 3)
  | [], _ => Nat.zero_le _
  | (s, w) :: r, h => by
    obtain ⟨hs, hw⟩ := h (s, w) (List.mem_cons_self ..)
    obtain ⟨n, _, n3, e⟩ := space_tl hs
    have hw : w.length ≤ b := hw
    rw [TL.len_tl] at hw
    have hs' : TL.tl s = List.replicate n 32 := e
    show (TL.tl s ++ (TL.tl w ++ glueS r)).length ≤ (r.length + 1) * (b + 3)
    rw [List.length_append, List.length_append, hs', List.length_replicate, Nat.succ_mul]
    have := glue_len (ps := r) fun q hq => h q (List.mem_cons_of_mem _ hq)
    omega
def blk (ws : List Str) : List (Str × Str) := ws.map fun w => ((" " : Str), w)
theorem blk_snd : ∀ ws : List Str, (blk ws).map Prod.snd = ws
  | [] => rfl
  | w :: r => by
    show w :: (blk r).map Prod.snd = _
    rw [blk_snd r]
theorem blk_mem {ws : List Str} {q : Str × Str} (h : q ∈ blk ws) : q.1 ∈ spaceL ∧ q.2 ∈ ws := by
  obtain ⟨w, hw, rfl⟩ := List.mem_map.mp h
  exact ⟨List.mem_cons_self .., hw⟩
theorem join_glue : ∀ (w : Str) (ws : List Str), TL.joinL [32] ((w :: ws).map TL.tl) = TL.tl w ++ glueS (blk ws)
  | w, [] => by
    show TL.tl w = TL.tl w ++ []
    rw [List.append_nil]
  | w, v :: r => by
    have e : TL.joinL [32] ((w :: v :: r).map TL.tl) = TL.tl w ++ ([32] ++ TL.joinL [32] ((v :: r).map TL.tl)) := rfl
    rw [e, join_glue v r]
    rfl
theorem ref_cmd {K : PySem.W.Frag} {CG CL XM XR X : Addr} {x w0 : Str} {rest : List Str} (e : TL.tl x = TL.tl w0 ++ glueS (blk rest)) (p0 : plainB w0 = true) (l0 : w0.length ≤ 8) (pr : ∀ r ∈ rest, plainB r = true) (lr : ∀ r ∈ rest, r.length ≤ 9) (ln : rest.length ≤ 8) (nl : w0 ≠ ("let" : Str))
    (h : (¬ isNear w0 rest ∧ readW w0 rest = none) ∨ (w0 = ("nearest" : Str) ∧ isNear w0 rest ∧ (∀ r ∈ ptsOf rest, numIf r (-9999) = true) ∧ readN rest = none) ∨ (w0 = ("nearest" : Str) ∧ isNear w0 rest ∧ ∃ r, ptsOf rest = [r] ∧ numIf r (-9999) = false)) : RefA K CG CL XM XR X (.str x) := by
  intro H Q E en
  have gl := glue_len (b := 9) (ps := blk rest) fun q hq => ⟨(blk_mem hq).1, lr _ (blk_mem hq).2⟩
  have lb : (blk rest).length = rest.length := List.length_map ..
  have hl : x.length ≤ 900 := by
    rw [TL.len_tl, e, List.length_append]
    rw [TL.len_tl] at l0
    omega
  refine line_cmd (i := 0) (j := 0) (ps := blk rest) (w0 := w0) (by rw [e]; simp) hl p0 (fun q hq => ⟨(blk_mem hq).1, pr _ (blk_mem hq).2⟩) nl fun H1 a s1 ha => ?_
  rw [blk_snd] at ha
  rcases h with ⟨h1, h2⟩ | ⟨rfl, h1, h2, h3⟩ | ⟨rfl, h1, r, h2, h3⟩
  · exact .inl (.inl ⟨w0, a, rest, rfl, ha, by omega, fun r hr => by have := lr r hr; omega, by omega, h1, fun c' e => (by rw [h2] at e; cases e), fun _ => en.at s1⟩)
  · exact .inl (.inr ⟨a, rest, rfl, ha, by omega, fun r hr => by have := lr r hr; omega, h1, h2, fun c' e => (by rw [h3] at e; cases e), fun _ => en.at s1⟩)
  · exact .inr ⟨a, rest, r, rfl, ha, by omega, fun r hr => by have := lr r hr; omega, h1, h2, h3, en.at s1⟩

end
end K50
namespace K50
open PySem PySem.Spec PyProof.Rows L2 Gm
open C8 (Cal Met Mak pe_c pe_mt pe_mt0 pe_mk)
section
variable {P : Program} {w : World} {K : PySem.W.Frag} {mg : Str → Option Value} {base : Heap}
/-! ### let lines -/
def letM (z : Int) : List (List Int) := [[z, 1], [1, z + 1]]
def letT (z : Int) : Str := textS (letM z)
def letB (z : Int) : Bool := decide (TL.tl (letT z) = TL.tl (numS z) ++ glueS (blk ["1;", "1", numS (z + 1)])) && (([numS z, "1;", "1", numS (z + 1)] : List Str).all (fun w => plainB w && decide (w.length ≤ 8)) && (decide ((letT z).length ≤ 40) && ((TL.tl (letT z)).all okS &&
  (List.range 4).all fun a => (List.range 3).all fun j => decide (Txt.strip ⟨(List.replicate a 32 ++ (TL.tl (letT z) ++ List.replicate j 32)).toArray⟩ = letT z))))
theorem let_all : (List.range 50).all (fun k => letB (((k : Nat) : Int) + 1)) = true := by decide +kernel
structure LetW (z : Int) : Prop where
  gl : TL.tl (letT z) = TL.tl (numS z) ++ glueS (blk ["1;", "1", numS (z + 1)])
  pl : ∀ w ∈ ([numS z, "1;", "1", numS (z + 1)] : List Str), plainB w = true ∧ w.length ≤ 8
  len : (letT z).length ≤ 40
  ok : ∀ c ∈ TL.tl (letT z), okS c = true
  st : ∀ a j, a < 4 → j < 3 → Txt.strip ⟨(List.replicate a 32 ++ (TL.tl (letT z) ++ List.replicate j 32)).toArray⟩ = letT z
  tx : okT (letT z) = true
  nu : Nums (letT z) (letM z)
theorem let_W {z : Int} (h1 : 1 ≤ z) (h2 : z ≤ 50) : LetW z := by
  have h := List.all_eq_true.mp let_all (z - 1).toNat (List.mem_range.mpr (by omega))
  rw [show (((z - 1).toNat : Nat) : Int) + 1 = z by omega] at h
  unfold letB at h
  simp only [Bool.and_eq_true] at h
  obtain ⟨a1, a2, a3, a4, a5⟩ := h
  have gz : GoodW z := good_of (by omega) (by omega)
  have g1 : GoodW 1 := good_of (by omega) (by omega)
  have gz1 : GoodW (z + 1) := good_of (by omega) (by omega)
  have good : ∀ r ∈ letM z, ∀ i ∈ r, GoodW i := by
    intro r hr i hi
    unfold letM at hr
    simp only [List.mem_cons, List.not_mem_nil, or_false] at hr
    rcases hr with rfl | rfl
    · simp only [List.mem_cons, List.not_mem_nil, or_false] at hi
      rcases hi with rfl | rfl
      · exact gz
      · exact g1
    · simp only [List.mem_cons, List.not_mem_nil, or_false] at hi
      rcases hi with rfl | rfl
      · exact g1
      · exact gz1
  have nm : letM z ≠ [] := by unfold letM; simp
  have nr : ∀ r ∈ letM z, r ≠ [] := by
    intro r hr
    unfold letM at hr
    simp only [List.mem_cons, List.not_mem_nil, or_false] at hr
    rcases hr with rfl | rfl <;> simp
  refine ⟨of_decide_eq_true a1, fun w hw => ?_, of_decide_eq_true a3, fun c hc => List.all_eq_true.mp a4 c hc, fun a j ha hj => ?_, text_okT nm nr good, ?_⟩
  · have := List.all_eq_true.mp a2 w hw
    rw [Bool.and_eq_true] at this
    exact ⟨this.1, of_decide_eq_true this.2⟩
  · exact of_decide_eq_true (List.all_eq_true.mp (List.all_eq_true.mp a5 a (List.mem_range.mpr ha)) j (List.mem_range.mpr hj))
  · unfold Nums
    show (Gm.wordsOf (textS (letM z))).map _ = _
    rw [text_words nm nr good, List.map_map]
    refine List.map_congr_left fun r hr => ?_
    show (r.map numS).map intText? = r.map some
    rw [List.map_map]
    exact List.map_congr_left fun x hx => (good r hr x hx).back
theorem wfin_acc : ∀ (l : List Nat) (acc : List (List Nat)) (u : List Nat), ∃ more, TL.wfin (l.foldl TL.wstep (acc, u)) = acc ++ more
  | [], acc, u => by
    show ∃ more, TL.wfin (acc, u) = acc ++ more
    unfold TL.wfin
    by_cases h : u = []
    · exact ⟨[], by simp [h]⟩
    · exact ⟨[u], by simp [h]⟩
  | c :: l, acc, u => by
    show ∃ more, TL.wfin (l.foldl TL.wstep (TL.wstep (acc, u) c)) = acc ++ more
    have hw : (∃ u', TL.wstep (acc, u) c = (acc, u')) ∨ ∃ u', TL.wstep (acc, u) c = (acc ++ [u], u') := by
      unfold TL.wstep
      dsimp only
      repeat' split
      all_goals first | exact .inl ⟨_, rfl⟩ | exact .inr ⟨_, rfl⟩
    rcases hw with ⟨u', e⟩ | ⟨u', e⟩
    · rw [e]
      exact wfin_acc l acc u'
    · rw [e]
      obtain ⟨m, h⟩ := wfin_acc l (acc ++ [u]) u'
      exact ⟨[u] ++ m, by rw [h, List.append_assoc]⟩
theorem let_head {x : Str} {i : Nat} {r : List Nat} (e : TL.tl x = List.replicate i 32 ++ (TL.tl ("let" : Str) ++ (32 :: r))) : ∃ rest, Txt.words x = ("let" : Str) :: rest := by
  have hw := TL.words_tl x
  have e32 : Unicode.isSpace 32 = true := by decide +kernel
  rw [e, List.foldl_append, lead_blanks, List.foldl_append, TL.wfold_word (TL.tl ("let" : Str)) _ _ (by decide +kernel), List.nil_append] at hw
  have hs : TL.wstep ([], TL.tl ("let" : Str)) 32 = ([TL.tl ("let" : Str)], []) := by
    unfold TL.wstep
    simp [e32, show TL.tl ("let" : Str) ≠ [] by decide]
  have hw : (Txt.words x).map TL.tl = TL.wfin (r.foldl TL.wstep (TL.wstep ([], TL.tl ("let" : Str)) 32)) := hw
  rw [hs] at hw
  obtain ⟨m, hm⟩ := wfin_acc r [TL.tl ("let" : Str)] []
  rw [hm] at hw
  cases h : Txt.words x with
  | nil => rw [h] at hw; cases hw
  | cons w rest =>
    rw [h] at hw
    have : TL.tl w = TL.tl ("let" : Str) := by injection hw
    exact ⟨rest, by rw [TL.ext_tl this]⟩
section
variable {K : PySem.W.Frag} {CG CL XM XR X : Addr}
theorem line_let2 {x : Str} {i : Nat} {r : List Nat} {H : Hp} {Q : VK} {E : XK} (e : TL.tl x = List.replicate i 32 ++ (TL.tl ("let" : Str) ++ (32 :: r))) (ok : ∀ c ∈ TL.tl x, okS c = true) (hl : x.length ≤ 900) (h : ∀ H1, Same H H1 → sp_read_let K CG CL XM XR X [.str x] H1 Q E) :
    sp_read_line K CG CL XM XR X [.str x] H Q E := by
  obtain ⟨l1, l2⟩ := line_good ok
  obtain ⟨rest, hw⟩ := let_head e
  exact ⟨.str x, rfl, .inr ⟨x, rfl, hl, l1, .inr ⟨l2, "let", rest, hw, .inl ⟨rfl, h⟩⟩⟩⟩
/-- a let line's parts -/
theorem let_at {x : Str} {i b : Nat} {s w1 : Str} {t : List Nat} {H : Hp} {Q : VK} {E : XK} (e : TL.tl x = (List.replicate i 32 ++ ((TL.tl ("let" : Str) ++ glueS [(s, w1)]) ++ List.replicate b 32)) ++ (61 :: t)) (hs : s ∈ spaceL) (p1 : plainB w1 = true) (n1 : 61 ∉ TL.tl w1) (hl : x.length ≤ 900)
    (k : ∀ t' : Str, TL.tl t' = t → (Txt.strip t').length ≤ 200 ∧ ((isNameB w1 = false ∧ ENo E X H) ∨ (isNameB w1 = true ∧ ((okT (Txt.strip t') = false ∧ ENo E X H) ∨ (okT (Txt.strip t') = true ∧ ∃ m : List (List Int), Nums (Txt.strip t') m ∧
      ((∃ n, Gram n m ∧ ∀ p lv H', Same H H' → SqT K H' p [.str "let", .str w1, lv] → IsLat K CG CL H' lv m n → Q (.ref p) H') ∨ (BadM K CG XM XR m ∧ ENo E X H))))))) : sp_read_let K CG CL XM XR X [.str x] H Q E := by
  obtain ⟨h, hh⟩ : ∃ h : Str, TL.tl h = List.replicate i 32 ++ ((TL.tl ("let" : Str) ++ glueS [(s, w1)]) ++ List.replicate b 32) := ⟨⟨_⟩, rfl⟩
  obtain ⟨t', ht⟩ : ∃ t' : Str, TL.tl t' = t := ⟨⟨t.toArray⟩, rfl⟩
  have g1 := plain_W p1
  have glue1 : glueS [(s, w1)] = TL.tl s ++ TL.tl w1 := by
    show TL.tl s ++ (TL.tl w1 ++ []) = _
    rw [List.append_nil]
  obtain ⟨ns, _, _, es⟩ := space_tl hs
  have nm : ∀ {n : Nat}, 61 ∉ List.replicate n 32 := fun {n} hm => by have := (List.mem_replicate.mp hm).2; omega
  have n61 : 61 ∉ TL.tl h := by
    rw [hh, glue1, es]
    simp only [List.mem_append, not_or]
    exact ⟨nm, ⟨by decide, nm, n1⟩, nm⟩
  have ex : x = h ++ ("=" : Str) ++ t' := TL.ext_tl (by rw [TL.tl_append, TL.tl_append, hh, ht, e, List.append_assoc _ (TL.tl ("=" : Str))]; rfl)
  have hp : Txt.partition x ("=" : Str) = (h, ("=" : Str), t') := by rw [ex]; exact TL.partition_app (S := []) rfl n61
  have hw : Txt.words h = [("let" : Str), w1] := line_words hh (plain_W (by decide +kernel)).1 fun q hq => by rw [List.mem_singleton.mp hq]; exact ⟨hs, g1.1⟩
  have lx : x.length = h.length + 1 + t'.length := by
    rw [TL.len_tl, TL.len_tl h, TL.len_tl t', ex, TL.tl_append, TL.tl_append, List.length_append, List.length_append]
    rfl
  have lw : w1.length ≤ 900 := by
    have : w1.length ≤ h.length := by
      rw [TL.len_tl, TL.len_tl h, hh, glue1]
      simp only [List.length_append]
      omega
    omega
  obtain ⟨k1, k2⟩ := k t' ht
  exact ⟨x, h, "=", t', rfl, hl, hp, by omega, by omega, .inr ⟨"let", w1, hw, lw, k1, k2⟩⟩
theorem name_61 : ∀ n ∈ nameL, 61 ∉ TL.tl n := by decide +kernel
theorem let_back {x n s : Str} {i b a j : Nat} {z : Int} {H : Hp} {Q : VK} {E : XK} (e : TL.tl x = (List.replicate i 32 ++ ((TL.tl ("let" : Str) ++ glueS [(s, n)]) ++ List.replicate b 32)) ++ (61 :: (List.replicate a 32 ++ (TL.tl (letT z) ++ List.replicate j 32)))) (hs : s ∈ spaceL) (hn : n ∈ nameL) (z1 : 1 ≤ z) (z50 : z ≤ 50)
    (hi : i ≤ 3) (hb : b ≤ 3) (ha : a < 4) (hj : j < 3) (q : ∀ p lv H', Same H H' → SqT K H' p [.str "let", .str n, lv] → IsLat K CG CL H' lv (letM z) 2 → Q (.ref p) H') : sp_read_line K CG CL XM XR X [.str x] H Q E := by
  have L := let_W z1 z50
  obtain ⟨n1, n2, n3⟩ := name_plain n hn
  obtain ⟨ns, s0, s3, es⟩ := space_tl hs
  have glue1 : glueS [(s, n)] = TL.tl s ++ TL.tl n := by
    show TL.tl s ++ (TL.tl n ++ []) = _
    rw [List.append_nil]
  have hl : x.length ≤ 900 := by
    have l2 := L.len
    rw [TL.len_tl] at l2 n3
    rw [TL.len_tl, e, glue1, es]
    simp only [List.length_append, List.length_replicate, List.length_cons]
    have : (TL.tl ("let" : Str)).length = 3 := rfl
    omega
  have ok : ∀ c ∈ TL.tl x, okS c = true := fun c hc => by
    rw [e, glue1, es] at hc
    simp only [List.mem_append, List.mem_cons] at hc
    rcases hc with (hc | (hc | hc | hc) | hc) | hc | hc | hc | hc
    · exact blank_ok hc
    · exact (plain_W (w := "let") (by decide +kernel)).2 c hc
    · exact blank_ok hc
    · exact (plain_W n1).2 c hc
    · exact blank_ok hc
    · rw [hc]; decide
    · exact blank_ok hc
    · exact L.ok c hc
    · exact blank_ok hc
  obtain ⟨k, rfl⟩ : ∃ k, ns = k + 1 := ⟨ns - 1, by omega⟩
  refine line_let2 (i := i) (r := List.replicate k 32 ++ (TL.tl n ++ (List.replicate b 32 ++ (61 :: (List.replicate a 32 ++ (TL.tl (letT z) ++ List.replicate j 32)))))) ?_ ok hl fun H1 s1 => ?_
  · rw [e, glue1, es, List.replicate_succ]
    simp only [List.append_assoc, List.cons_append]
  · refine let_at e hs n1 (name_61 n hn) hl fun t' ht => ?_
    have et : Txt.strip t' = letT z := by
      rw [show t' = ⟨(List.replicate a 32 ++ (TL.tl (letT z) ++ List.replicate j 32)).toArray⟩ from TL.ext_tl ht]
      exact L.st a j ha hj
    rw [et]
    exact ⟨by have := L.len; omega, .inr ⟨n2, .inr ⟨L.tx, letM z, L.nu, .inl ⟨2, gram_let z1 z50, fun p lv H' s' hp hL => q p lv H' (s1.trans s') hp hL⟩⟩⟩⟩
theorem let_alone : RefA K CG CL XM XR X (.str "let") := by
  intro H Q E en
  refine ⟨.str "let", rfl, .inr ⟨"let", rfl, by decide, by decide +kernel, .inr ⟨by decide +kernel, "let", [], by decide +kernel, .inl ⟨rfl, fun H1 s1 => ?_⟩⟩⟩⟩
  exact ⟨"let", "let", "", "", rfl, by decide, by decide +kernel, by decide, by decide, .inl ⟨by decide +kernel, en.at s1⟩⟩
theorem let_badname {x w1 : Str} {z : Int} (z1 : 1 ≤ z) (z50 : z ≤ 50) (p1 : plainB w1 = true) (b1 : isNameB w1 = false) (n61 : 61 ∉ TL.tl w1) (l1 : w1.length ≤ 9) (e : TL.tl x = TL.tl ("let" : Str) ++ glueS (blk [w1, "=", letT z])) : RefA K CG CL XM XR X (.str x) := by
  intro H Q E en
  have L := let_W z1 z50
  have e2 : TL.tl x = (List.replicate 0 32 ++ ((TL.tl ("let" : Str) ++ glueS [((" " : Str), w1)]) ++ List.replicate 1 32)) ++ (61 :: (List.replicate 1 32 ++ TL.tl (letT z))) := by
    rw [e]
    show TL.tl ("let" : Str) ++ ([32] ++ (TL.tl w1 ++ ([32] ++ ([61] ++ ([32] ++ (TL.tl (letT z) ++ [])))))) = ([] ++ ((TL.tl ("let" : Str) ++ ([32] ++ (TL.tl w1 ++ []))) ++ [32])) ++ (61 :: ([32] ++ TL.tl (letT z)))
    simp only [List.append_nil, List.nil_append, List.append_assoc, List.cons_append]
  have glue1 : glueS [((" " : Str), w1)] = 32 :: TL.tl w1 := by
    show [32] ++ (TL.tl w1 ++ []) = _
    rw [List.append_nil]
    rfl
  have hl : x.length ≤ 900 := by
    have l2 := L.len
    rw [TL.len_tl] at l2 l1
    rw [TL.len_tl, e2, glue1]
    simp only [List.length_append, List.length_replicate, List.length_cons]
    have : (TL.tl ("let" : Str)).length = 3 := rfl
    omega
  have ok : ∀ c ∈ TL.tl x, okS c = true := fun c hc => by
    rw [e2, glue1] at hc
    simp only [List.mem_append, List.mem_cons] at hc
    rcases hc with (hc | (hc | hc | hc) | hc) | hc | hc | hc
    · exact blank_ok hc
    · exact (plain_W (w := "let") (by decide +kernel)).2 c hc
    · rw [hc]; decide
    · exact (plain_W p1).2 c hc
    · exact blank_ok hc
    · rw [hc]; decide
    · exact blank_ok hc
    · exact L.ok c hc
  refine line_let2 (i := 0) (r := TL.tl w1 ++ (List.replicate 1 32 ++ (61 :: (List.replicate 1 32 ++ TL.tl (letT z))))) ?_ ok hl fun H1 s1 => ?_
  · rw [e2, glue1]
    simp only [List.append_assoc, List.cons_append]
  · refine let_at e2 (List.mem_cons_self ..) p1 n61 hl fun t' ht => ?_
    refine ⟨?_, .inl ⟨b1, en.at s1⟩⟩
    have l1 : (Txt.strip t').length ≤ t'.length := by
      unfold Txt.strip Txt.stripBy
      split
      · exact Nat.le_refl _
      · exact le_strSub _ _ _
    have l2 := L.len
    rw [TL.len_tl] at l2
    rw [TL.len_tl t', ht] at l1
    simp only [List.length_append, List.length_replicate] at l1
    omega
theorem bad_12 : BadM K CG XM XR [[1, 2], [2, 1]] := fun a ws H1 E1 hs hp hM hR => .inl (.inr (.inr (.inl ⟨a, ws, _, 2, rfl, hs, hp, ⟨13, ⟨rfl, by decide, (show ∀ r ∈ ([[1, 2], [2, 1]] : List (List Int)), ∀ x ∈ r, x.natAbs < 2 ^ 13 by decide)⟩, by decide⟩, by decide, by decide, rfl, by decide, rfl, hM⟩)))
theorem let_const : RefA K CG CL XM XR X (.str "let a = 1 2; 2 1") := by
  intro H Q E en
  refine line_let2 (i := 0) (r := TL.tl ("a = 1 2; 2 1" : Str)) (by decide +kernel) (by decide +kernel) (by decide) fun H1 s1 => ?_
  refine let_at (i := 0) (b := 1) (s := " ") (w1 := "a") (t := TL.tl (" 1 2; 2 1" : Str)) (by decide +kernel) (List.mem_cons_self ..) (by decide +kernel) (by decide) (by decide) fun t' ht => ?_
  rw [show t' = (" 1 2; 2 1" : Str) from TL.ext_tl ht, show Txt.strip (" 1 2; 2 1" : Str) = ("1 2; 2 1" : Str) by decide +kernel]
  exact ⟨by decide, .inr ⟨by decide +kernel, .inr ⟨by decide +kernel, [[1, 2], [2, 1]], by unfold Nums; decide +kernel, .inr ⟨bad_12, en.at s1⟩⟩⟩⟩
end

end
end K50
namespace K50
open PySem PySem.Spec PyProof.Rows L2 Gm
open C8 (Cal Met Mak pe_c pe_mt pe_mt0 pe_mk)
section
variable {P : Program} {w : World} {K : PySem.W.Frag} {mg : Str → Option Value} {base : Heap}
/-! ### commands compared -/
theorem op_mul_str {X : Cx} : OpR X (binaryOp .Mult) (fun x y H Q => ∃ (i : Str) (n : Int), x = .str i ∧ y = .int n ∧ MulOk i n ∧ Q (.str (Txt.mul i n)) H) := by
  intro pins s σ H x y v u Q I rx ry h
  obtain ⟨i, n, rfl, rfl, ok, q⟩ := h
  obtain ⟨t, rfl⟩ := rx
  obtain ⟨t', rfl⟩ := ry
  exact SB.mul ok fun t' k => ⟨.str (Txt.mul i n), H, I.tok _, ⟨_, rfl⟩, q⟩
theorem IsLat.ext {K : PySem.W.Frag} {CG CL : Addr} {H H' : Hp} {v : V} {m : List (List Int)} {n : Nat} (e : L2.Ext H H') (h : IsLat K CG CL H v m n) : IsLat K CG CL H' v m n := lat_same (fun b o x => e b o x) h
def RLat (K : PySem.W.Frag) (CG CL : Addr) (a b : Addr) (H : Hp) : Prop := ∃ m n, IsLat K CG CL H (.ref a) m n ∧ IsLat K CG CL H (.ref b) m n
def DC3 (K : PySem.W.Frag) (CG CL : Addr) : Eqv := fun x y H => (DFlat x y H ∨ DTup K DFlat x y H) ∨ DIns CL (RLat K CG CL) x y H
theorem mon_DC3 {K : PySem.W.Frag} {CG CL : Addr} : Mon (DC3 K CG CL) := Mon.or (Mon.or mon_flat (mon_tup mon_flat)) (mon_ins fun a b H H' e h => by
  obtain ⟨m, n, h1, h2⟩ := h
  exact ⟨m, n, IsLat.ext e h1, IsLat.ext e h2⟩)
theorem ok_Lattice_eqG (T : Top K mg) (hN : base.NoSeer) (hT : P.given.tree = none) : FnOk P w K mg base CX0 2 T.a_Lattice_eq T.d_Lattice_eq ["self", "other"] (spEq (RLat K T.C_Grid T.C_Lattice)) :=
  (ok_Lattice_eq T hN hT).imp fun vs H Q E h => by
    obtain ⟨a, b, rfl, ⟨m, n, h1, h2⟩, q⟩ := h
    refine ⟨.ref a, m, n, .ref b, rfl, h1, .inl ⟨m, n, h2, ?_⟩⟩
    rw [decide_eq_true (show m = m ∧ n = n from ⟨rfl, rfl⟩)]
    exact q H fun _ _ x => x
def rNeC (K : PySem.W.Frag) (CG CL : Addr) : R2 := fun x y H Q => DTup K (DC3 K CG CL) x y H ∧ ∀ H', L2.Ext H H' → Q (.bl false) H'
theorem op_neC (T : Top K mg) (hN : base.NoSeer) (hT : P.given.tree = none) {X : Cx} (hP : X.prog = P) (hw : X.w = w) (hK : X.K = K) (hm : X.mg = mg) (hb : X.base = base) (hr : Room (2 + 2) X.A) : OpR X (compareOp .NotEq) (rNeC K T.C_Grid T.C_Lattice) := by
  subst hP hw hK hm hb
  refine op_neTG (n := 2 + 1) mon_DC3 ?_ hr
  refine EqG.or (EqG.or (eqG_flat.mono (Nat.zero_le _)) ((eqG_tup mon_flat eqG_flat).mono (by omega))) ?_
  exact (eqG_ins (E := L2.E0) (ok_Lattice_eqG T hN hT) T.m_Lattice_eq.at_ T.m_Lattice_eq.fn T.b_Lattice_eq pass0).mono (by omega)
theorem flat_str {s : Str} {H : Hp} : DFlat (.str s) (.str s) H := ⟨rfl, rfl, by show (s == s) = true; exact beq_self_eq_true s⟩
theorem flat_int {i : Int} {H : Hp} : DFlat (.int i) (.int i) H := ⟨rfl, rfl, by show (i == i) = true; exact beq_self_eq_true i⟩
theorem prs_ints {H : Hp} : ∀ a : List Int, Prs DFlat (a.map V.int) (a.map V.int) H
  | [] => Prs.nil
  | _ :: r => Prs.cons flat_int (prs_ints r)
theorem lc_eqv {K : PySem.W.Frag} {CG CL : Addr} {H : Hp} {v u : V} {c : LC} (h1 : IsLC K CG CL H v c) (h2 : IsLC K CG CL H u c) : DTup K (DC3 K CG CL) v u H := by
  have fs : ∀ {s : Str}, DC3 K CG CL (.str s) (.str s) H := .inl (.inl flat_str)
  have fi : ∀ {i : Int}, DC3 K CG CL (.int i) (.int i) H := .inl (.inl flat_int)
  cases c with
  | cmd c =>
    obtain ⟨p, rfl, h1⟩ := h1
    obtain ⟨q, rfl, h2⟩ := h2
    cases c with
    | alone w n => exact ⟨p, q, _, _, rfl, rfl, h1, h2, .cons fs (.cons fs .nil)⟩
    | alike n k => exact ⟨p, q, _, _, rfl, rfl, h1, h2, .cons fs (.cons fs (.cons fs .nil))⟩
    | num w n z => exact ⟨p, q, _, _, rfl, rfl, h1, h2, .cons fs (.cons fs (.cons fi .nil))⟩
    | near n a d =>
      obtain ⟨t, h1, k1⟩ := h1
      obtain ⟨t', h2, k2⟩ := h2
      exact ⟨p, q, _, _, rfl, rfl, h1, h2, .cons fs (.cons fs (.cons (.inl (.inr ⟨t, t', _, _, rfl, rfl, k1, k2, prs_ints a⟩)) (.cons fi .nil)))⟩
  | lat n z =>
    obtain ⟨p, lv, rfl, h1, k1⟩ := h1
    obtain ⟨q, lu, rfl, h2, k2⟩ := h2
    obtain ⟨pa, da, ga, rfl, oa, _⟩ := k1.obj
    obtain ⟨pb, db, gb, rfl, ob, _⟩ := k2.obj
    exact ⟨p, q, _, _, rfl, rfl, h1, h2, .cons fs (.cons fs (.cons (.inr ⟨pa, pb, da, db, _, _, rfl, rfl, oa, ob, _, _, k1, k2⟩) .nil))⟩
/-- a command's line reads back -/
theorem line_back {K : PySem.W.Frag} {CG CL XM XR X : Addr} {c : LC} {x w0 : Str} {ps : List (Str × Str)} {i j : Nat} {H : Hp} {Q : VK} {E : XK} (g : GoodC c) (e : TL.tl x = List.replicate i 32 ++ ((TL.tl w0 ++ glueS ps) ++ List.replicate j 32)) (hi : i ≤ 3) (hj : j < 3) (hc : wordsC c = w0 :: ps.map Prod.snd) (hs : ∀ q ∈ ps, q.1 ∈ spaceL) (hl : x.length ≤ 900)
    (q : ∀ v H', Same H H' → IsLC K CG CL H' v c → Q v H') : sp_read_line K CG CL XM XR X [.str x] H Q E := by
  cases c with
  | cmd c =>
    obtain ⟨w1, rest, W, F, _⟩ := good_W g
    have eq := W.eq
    rw [hc] at eq
    injection eq with e1 e2
    subst e1
    refine line_cmd e hl W.p0 (fun r hr => ⟨hs r hr, W.pr _ (by rw [← e2]; exact List.mem_map.mpr ⟨r, hr, rfl⟩)⟩) W.nl fun H1 a s1 ha => ?_
    rw [e2] at ha
    exact W.words ha fun p H' s' hp => q _ _ (s1.trans s') ⟨p, rfl, hp⟩
  | lat n z =>
    obtain ⟨hn, z1, z50⟩ : n ∈ nameL ∧ 1 ≤ z ∧ z ≤ 50 := by
      cases g with
      | lat a b c => exact ⟨a, b, c⟩
    have hc : (["let", n, "=", letT z] : List Str) = w0 :: ps.map Prod.snd := hc
    rcases ps with _ | ⟨⟨s1, n'⟩, _ | ⟨⟨s2, e'⟩, _ | ⟨⟨s3, t'⟩, _ | ⟨y, r⟩⟩⟩⟩
    · have h := congrArg List.length hc; simp only [List.length_cons, List.length_map, List.length_nil, List.map_cons, List.map_nil] at h; omega
    · have h := congrArg List.length hc; simp only [List.length_cons, List.length_map, List.length_nil, List.map_cons, List.map_nil] at h; omega
    · have h := congrArg List.length hc; simp only [List.length_cons, List.length_map, List.length_nil, List.map_cons, List.map_nil] at h; omega
    · injection hc with h0 h
      injection h with h1 h
      injection h with h2 h
      injection h with h3 h
      subst h0
      have h1 : n = n' := h1
      have h2 : ("=" : Str) = e' := h2
      have h3 : letT z = t' := h3
      subst h1 h2 h3
      obtain ⟨b, b0, b3, eb⟩ := space_tl (hs (s2, _) (List.mem_cons_of_mem _ (List.mem_cons_self ..)))
      obtain ⟨a, a0, a3, ea⟩ := space_tl (hs (s3, _) (List.mem_cons_of_mem _ (List.mem_cons_of_mem _ (List.mem_cons_self ..))))
      have eb : TL.tl s2 = List.replicate b 32 := eb
      have ea : TL.tl s3 = List.replicate a 32 := ea
      refine let_back (i := i) (b := b) (a := a) (j := j) (s := s1) (n := n) (z := z) ?_ (hs (s1, _) (List.mem_cons_self ..)) hn z1 z50 hi b3 (by omega) hj fun p lv H' s' hp hL => q _ _ s' ⟨p, lv, rfl, hp, hL⟩
      rw [e]
      show List.replicate i 32 ++ ((TL.tl ("let" : Str) ++ (TL.tl s1 ++ (TL.tl n ++ (TL.tl s2 ++ ([61] ++ (TL.tl s3 ++ (TL.tl (letT z) ++ []))))))) ++ List.replicate j 32) = (List.replicate i 32 ++ ((TL.tl ("let" : Str) ++ (TL.tl s1 ++ (TL.tl n ++ []))) ++ List.replicate b 32)) ++ (61 :: (List.replicate a 32 ++ (TL.tl (letT z) ++ List.replicate j 32)))
      rw [eb, ea]
      simp only [List.append_nil, List.append_assoc, List.cons_append, List.nil_append]
    · have h := congrArg List.length hc; simp only [List.length_cons, List.length_map, List.length_nil, List.map_cons, List.map_nil] at h; omega

end
end K50
namespace K50
open PySem PySem.Spec PyProof.Rows L2 Gm
open C8 (Cal Met Mak pe_c pe_mt pe_mt0 pe_mk)
section
variable {P : Program} {w : World} {K : PySem.W.Frag} {mg : Str → Option Value} {base : Heap}
/-! ### the spoilt lines -/
def constB : List (List Str) := [["alike", "a", "form"], ["short", "a", "01"], ["short", "a", "-1"], ["below", "a", "0"], ["nearest", "a", "1", "/", "0"], ["nearest", "a", "/", "2"], ["nearest", "a", "-0", "/", "2"], ["short", "a", "12345"], ["let", "a", "=", "1 2; 2 1"]]
def headB (ws : List Str) : List (List Str) := [ws.take 1, ["short", ws.getD 1 ""], ([Txt.upper (ws.getD 0 "")] : List Str) ++ ws.drop 1, ws.take 1 ++ (["Form"] : List Str) ++ ws.drop 2, ws.take 1 ++ (["above"] : List Str) ++ ws.drop 2]
def isLN : LC → Bool
  | .cmd (.near _ _ _) => true
  | .lat _ _ => true
  | _ => false
def badsC (c : LC) : List (List Str) := headB (wordsC c) ++ constB ++ (if isLN c = true then [] else [wordsC c ++ (["b"] : List Str)])
section
variable {K : PySem.W.Frag} {CG CL XM XR X : Addr}
theorem join_tl (w : Str) (ws : List Str) : TL.tl (Txt.join (" " : Str) (w :: ws)) = TL.tl w ++ glueS (blk ws) := by
  rw [TL.join_eq, TL.tl_join]
  exact join_glue w ws
theorem ref_list {w0 : Str} {rest : List Str} (hA : (([w0] : List Str) ++ rest).all (fun r => plainB r && decide (r.length ≤ 8)) = true) (hl : rest.length ≤ 8) (nl : w0 ≠ ("let" : Str)) (h1 : ¬ isNear w0 rest) (h2 : (readW w0 rest).isNone = true) : RefA K CG CL XM XR X (.str (Txt.join (" " : Str) (w0 :: rest))) := by
  have hA : ∀ r ∈ w0 :: rest, plainB r = true ∧ r.length ≤ 8 := fun r hr => by
    have := List.all_eq_true.mp hA r hr
    rw [Bool.and_eq_true] at this
    exact ⟨this.1, of_decide_eq_true this.2⟩
  have p0 := hA w0 (List.mem_cons_self ..)
  exact ref_cmd (join_tl w0 rest) p0.1 p0.2 (fun r hr => (hA r (List.mem_cons_of_mem _ hr)).1) (fun r hr => by have := (hA r (List.mem_cons_of_mem _ hr)).2; omega) hl nl (.inl ⟨h1, Option.isNone_iff_eq_none.mp h2⟩)
theorem const_ref : ∀ ws ∈ constB, RefA K CG CL XM XR X (.str (Txt.join (" " : Str) ws)) := by
  intro ws h
  unfold constB at h
  simp only [List.mem_cons, List.not_mem_nil, or_false] at h
  rcases h with rfl | rfl | rfl | rfl | rfl | rfl | rfl | rfl | rfl
  · exact ref_list (by decide +kernel) (by decide) (by decide) (by unfold isNear; decide +kernel) (by decide +kernel)
  · exact ref_list (by decide +kernel) (by decide) (by decide) (by unfold isNear; decide +kernel) (by decide +kernel)
  · exact ref_list (by decide +kernel) (by decide) (by decide) (by unfold isNear; decide +kernel) (by decide +kernel)
  · exact ref_list (by decide +kernel) (by decide) (by decide) (by unfold isNear; decide +kernel) (by decide +kernel)
  · refine ref_cmd (join_tl _ _) (by decide +kernel) (by decide) (by decide +kernel) (by decide) (by decide) (by decide) (.inr (.inl ⟨rfl, by unfold isNear; decide +kernel, by decide +kernel, Option.isNone_iff_eq_none.mp (by decide +kernel)⟩))
  · exact ref_list (by decide +kernel) (by decide) (by decide) (by unfold isNear; decide +kernel) (by decide +kernel)
  · refine ref_cmd (join_tl _ _) (by decide +kernel) (by decide) (by decide +kernel) (by decide) (by decide) (by decide) (.inr (.inr ⟨rfl, by unfold isNear; decide +kernel, "-0", by decide +kernel, by decide +kernel⟩))
  · exact ref_list (by decide +kernel) (by decide) (by decide) (by unfold isNear; decide +kernel) (by decide +kernel)
  · have e : Txt.join (" " : Str) (["let", "a", "=", "1 2; 2 1"] : List Str) = ("let a = 1 2; 2 1" : Str) := by decide +kernel
    rw [e]
    exact let_const
/-- a bad name -/
theorem bad_name {c : Cmd} (g : GoodC (.cmd c)) {b : Str} (hb : plainB b = true) (lb : b.length ≤ 8) (nb : isNameB b = false) : RefA K CG CL XM XR X (.str (Txt.join (" " : Str) ((wordsC (.cmd c)).take 1 ++ ([b] : List Str) ++ (wordsC (.cmd c)).drop 2))) := by
  obtain ⟨w0, rest, W, F, _⟩ := good_W g
  rw [W.eq]
  have e1 : (w0 :: rest).take 1 ++ ([b] : List Str) ++ (w0 :: rest).drop 2 = w0 :: (b :: rest.drop 1) := rfl
  rw [e1]
  have ln := W.ln
  have hd : isNameB ((b :: rest.drop 1).getD 0 "") = false := nb
  have md : ∀ r ∈ rest.drop 1, r ∈ rest := fun r hr => List.mem_of_mem_drop hr
  have pr : ∀ r ∈ b :: rest.drop 1, plainB r = true := fun r hr => by
    rcases List.mem_cons.mp hr with rfl | hr
    · exact hb
    · exact W.pr r (md r hr)
  have lr : ∀ r ∈ b :: rest.drop 1, r.length ≤ 9 := fun r hr => by
    rcases List.mem_cons.mp hr with rfl | hr
    · omega
    · have := W.lr r (md r hr); omega
  have ll : (b :: rest.drop 1).length ≤ 8 := by rw [List.length_cons, List.length_drop]; omega
  rcases W.rd with ⟨n1, h2⟩ | ⟨rfl, n1, h2, h3⟩
  · by_cases hn : isNear w0 (b :: rest.drop 1)
    · exfalso
      obtain ⟨a1, a2, a3⟩ := hn
      subst a1
      have : readW ("nearest" : Str) rest = none := by
        unfold readW
        rw [if_neg (fun z => absurd z.1 (by decide +kernel)), if_neg (fun z => absurd z.1 (by decide +kernel)), if_neg (fun z => absurd z.1 (by decide +kernel)), if_neg (fun z => absurd z.1 (by decide +kernel))]
      rw [this] at h2
      cases h2
    · exact ref_cmd (join_tl _ _) W.p0 W.l0 pr lr ll W.nl (.inl ⟨hn, readW_none hd⟩)
  · obtain ⟨_, a2, a3⟩ := n1
    cases rest with
    | nil => exact absurd a2 (by decide)
    | cons n r =>
      have e2 : ptsOf (b :: (n :: r).drop 1) = ptsOf (n :: r) := rfl
      refine ref_cmd (join_tl _ _) W.p0 W.l0 pr lr ll W.nl (.inr (.inl ⟨rfl, ⟨rfl, a2, ?_⟩, h2, readN_none hd⟩))
      have l3 : 3 < r.length + 1 := a2
      have : (b :: r).getD (r.length + 1 - 2) "" = (n :: r).getD (r.length + 1 - 2) "" := by
        obtain ⟨k, hk⟩ : ∃ k, r.length + 1 - 2 = k + 1 := ⟨r.length - 2, by omega⟩
        rw [hk]
        rfl
      show (b :: r).getD (r.length + 1 - 2) "" = _
      rw [this]
      exact a3
theorem head_ref {c : LC} (g : GoodC c) : ∀ ws ∈ headB (wordsC c), RefA K CG CL XM XR X (.str (Txt.join (" " : Str) ws)) := by
  intro ws h
  have sh : ∀ n ∈ nameL, RefA K CG CL XM XR X (.str (Txt.join (" " : Str) (["short", n] : List Str))) := fun n hn => by
    obtain ⟨n1, n2, n3⟩ := name_plain n hn
    exact ref_cmd (join_tl _ _) (by decide +kernel) (by decide) (fun r hr => by rw [List.mem_singleton.mp hr]; exact n1) (fun r hr => by rw [List.mem_singleton.mp hr]; omega) (by show 1 ≤ 8; decide) (by decide) (.inl ⟨fun z => absurd z.2.1 (by show ¬ 3 < 1; decide), by
      unfold readW
      rw [if_neg (fun z => absurd z.1 (by decide +kernel)), if_neg (fun z => absurd z.1 (by decide +kernel)), if_neg (fun z => absurd z.2 (by show ¬ 1 = 2; decide)), if_neg (fun z => absurd z.1 (by decide +kernel))]⟩)
  unfold headB at h
  simp only [List.mem_cons, List.not_mem_nil, or_false] at h
  cases c with
  | cmd c =>
    obtain ⟨w0, rest, W, F, hn⟩ := good_W g
    have ln := W.ln
    rcases h with rfl | rfl | rfl | rfl | rfl
    · rw [W.eq]
      refine ref_cmd (join_tl w0 []) W.p0 W.l0 (fun r hr => by cases hr) (fun r hr => by cases hr) (Nat.zero_le _) W.nl (.inl ⟨fun z => absurd z.2.1 (by show ¬ 3 < 0; decide), readW_none (by decide +kernel)⟩)
    · refine sh _ ?_
      cases g with
      | alone a b => exact b
      | alike a b => exact a
      | short a b d => exact a
      | below a b d => exact a
      | near a b d e f i => exact a
    · rw [W.eq]
      have o := odd_none (rs := rest) F.u
      exact ref_cmd (join_tl (Txt.upper w0) rest) F.pu F.lu W.pr (fun r hr => by have := W.lr r hr; omega) (by omega) o.2.2 (.inl ⟨o.2.1, o.1⟩)
    · exact bad_name g (by decide +kernel) (by decide) (by decide +kernel)
    · exact bad_name g (by decide +kernel) (by decide) (by decide +kernel)
  | lat n z =>
    obtain ⟨hn, z1, z50⟩ : n ∈ nameL ∧ 1 ≤ z ∧ z ≤ 50 := by
      cases g with
      | lat a b c => exact ⟨a, b, c⟩
    obtain ⟨n1, n2, n3⟩ := name_plain n hn
    have L := let_W z1 z50
    rcases h with rfl | rfl | rfl | rfl | rfl
    · exact let_alone
    · exact sh n hn
    · have eu : Txt.upper ("let" : Str) = ("LET" : Str) := by decide +kernel
      have e : ([Txt.upper ((wordsC (.lat n z)).getD 0 "")] : List Str) ++ (wordsC (.lat n z)).drop 1 = (["LET", n, "=", letT z] : List Str) := by
        show ([Txt.upper ("let" : Str)] : List Str) ++ ([n, "=", letT z] : List Str) = _
        rw [eu]
        rfl
      rw [e]
      have o := odd_none (w := "LET") (rs := [n, "=", numS z, "1;", "1", numS (z + 1)]) (by decide +kernel)
      refine ref_cmd (w0 := "LET") (rest := [n, "=", numS z, "1;", "1", numS (z + 1)]) ?_ (by decide +kernel) (by decide) ?_ ?_ (by show 6 ≤ 8; decide) o.2.2 (.inl ⟨o.2.1, o.1⟩)
      · rw [join_tl]
        show _ ++ (TL.tl (" " : Str) ++ (TL.tl n ++ (TL.tl (" " : Str) ++ (TL.tl ("=" : Str) ++ (TL.tl (" " : Str) ++ (TL.tl (letT z) ++ [])))))) = _ ++ (TL.tl (" " : Str) ++ (TL.tl n ++ (TL.tl (" " : Str) ++ (TL.tl ("=" : Str) ++ (TL.tl (" " : Str) ++ (TL.tl (numS z) ++ glueS (blk ["1;", "1", numS (z + 1)])))))))
        rw [List.append_nil, L.gl]
      · intro r hr
        rcases List.mem_cons.mp hr with rfl | hr
        · exact n1
        rcases List.mem_cons.mp hr with rfl | hr
        · decide +kernel
        exact (L.pl r hr).1
      · intro r hr
        rcases List.mem_cons.mp hr with rfl | hr
        · omega
        rcases List.mem_cons.mp hr with rfl | hr
        · decide
        have := (L.pl r hr).2
        omega
    · exact let_badname z1 z50 (w1 := "Form") (by decide +kernel) (by decide +kernel) (by decide) (by decide) (join_tl _ _)
    · exact let_badname z1 z50 (w1 := "above") (by decide +kernel) (by decide +kernel) (by decide) (by decide) (join_tl _ _)
theorem more_ref {c : LC} (g : GoodC c) (h : isLN c = false) : RefA K CG CL XM XR X (.str (Txt.join (" " : Str) (wordsC c ++ (["b"] : List Str)))) := by
  cases c with
  | lat n z => cases h
  | cmd c =>
    obtain ⟨w0, rest, W, F, hn⟩ := good_W g
    have ln := W.ln
    rw [W.eq]
    refine ref_cmd (join_tl w0 (rest ++ (["b"] : List Str))) W.p0 W.l0 (fun r hr => ?_) (fun r hr => ?_) (by rw [List.length_append]; show rest.length + 1 ≤ 8; omega) W.nl (.inl ?_)
    · rcases List.mem_append.mp hr with hr | hr
      · exact W.pr r hr
      · rw [List.mem_singleton.mp hr]; decide +kernel
    · rcases List.mem_append.mp hr with hr | hr
      · have := W.lr r hr; omega
      · rw [List.mem_singleton.mp hr]; decide
    · cases g with
      | @alone w n hw hn' =>
        have e := W.eq
        obtain ⟨f, f1, f2, f3, f4, f5, f6⟩ := alone_facts w hw
        injection e with e1 e2
        subst e1 e2
        refine ⟨fun z => absurd z.2.1 (by show ¬ 3 < 2; decide), ?_⟩
        unfold readW
        rw [if_neg (fun z => absurd z.2 (by show ¬ 2 = 1; decide)), if_neg (fun z => absurd z.1 (of_decide_eq_false f4)), if_neg (fun z => absurd z.1 (of_decide_eq_false f5)), if_neg (fun z => absurd z.1 (of_decide_eq_false f6))]
      | @alike n k hn' hk =>
        have e := W.eq
        injection e with e1 e2
        subst e1 e2
        refine ⟨fun z => absurd z.2.1 (by show ¬ 3 < 3; decide), ?_⟩
        unfold readW
        rw [if_neg (fun z => absurd z.2 (by show ¬ 3 = 1; decide)), if_neg (fun z => absurd z.2 (by show ¬ 3 = 2; decide)), if_neg (fun z => absurd z.2 (by show ¬ 3 = 2; decide)), if_neg (fun z => absurd z.2 (by show ¬ 3 = 2; decide))]
      | @short n z hn' z0 z9 =>
        have e := W.eq
        injection e with e1 e2
        subst e1 e2
        refine ⟨fun z => absurd z.2.1 (by show ¬ 3 < 3; decide), ?_⟩
        unfold readW
        rw [if_neg (fun z => absurd z.2 (by show ¬ 3 = 1; decide)), if_neg (fun z => absurd z.2 (by show ¬ 3 = 2; decide)), if_neg (fun z => absurd z.2 (by show ¬ 3 = 2; decide)), if_neg (fun z => absurd z.2 (by show ¬ 3 = 2; decide))]
      | @below n z hn' z0 z9 =>
        have e := W.eq
        injection e with e1 e2
        subst e1 e2
        refine ⟨fun z => absurd z.2.1 (by show ¬ 3 < 3; decide), ?_⟩
        unfold readW
        rw [if_neg (fun z => absurd z.2 (by show ¬ 3 = 1; decide)), if_neg (fun z => absurd z.2 (by show ¬ 3 = 2; decide)), if_neg (fun z => absurd z.2 (by show ¬ 3 = 2; decide)), if_neg (fun z => absurd z.2 (by show ¬ 3 = 2; decide))]
      | near a b d e f i => cases h
theorem bads_ref {c : LC} (g : GoodC c) : ∀ ws ∈ badsC c, RefA K CG CL XM XR X (.str (Txt.join (" " : Str) ws)) := by
  intro ws h
  unfold badsC at h
  rcases List.mem_append.mp h with h | h
  · rcases List.mem_append.mp h with h | h
    · exact head_ref g ws h
    · exact const_ref ws h
  · cases e : isLN c with
    | true =>
      rw [e, if_pos rfl] at h
      cases h
    | false =>
      rw [e, if_neg (by decide)] at h
      rw [List.mem_singleton.mp h]
      exact more_ref g e
theorem first_ref {c : LC} (g : GoodC c) : RefA K CG CL XM XR X (.str ((wordsC c).getD 0 "")) := by
  have h := head_ref (K := K) (CG := CG) (CL := CL) (XM := XM) (XR := XR) (X := X) g ((wordsC c).take 1) (List.mem_cons_self ..)
  have : Txt.join (" " : Str) ((wordsC c).take 1) = (wordsC c).getD 0 "" := by
    obtain ⟨w, r, e⟩ : ∃ w r, wordsC c = w :: r := by
      cases c with
      | lat n z => exact ⟨_, _, rfl⟩
      | cmd c => cases c <;> exact ⟨_, _, rfl⟩
    rw [e]
    rw [TL.join_eq]
    exact TL.ext_tl (by rw [TL.tl_join]; rfl)
  rw [this] at h
  exact h
theorem odd_values : (∀ H : Hp, NoStr K H .non) → (∀ H : Hp, NoStr K H (.int 5)) → ∀ v ∈ ([.non, .int 5, .str (("form " : Str) ++ Txt.mul ("a" : Str) 9), .str "form a\n", .str (Txt.mul ("a" : Str) 2001)] : List V), RefA K CG CL XM XR X v := by
  intro n1 n2 v hv
  simp only [List.mem_cons, List.not_mem_nil, or_false] at hv
  rcases hv with rfl | rfl | rfl | rfl | rfl
  · exact fun H Q E en => ⟨_, rfl, .inl ⟨.inl (n1 H), en⟩⟩
  · exact fun H Q E en => ⟨_, rfl, .inl ⟨.inl (n2 H), en⟩⟩
  · have e : (("form " : Str) ++ Txt.mul ("a" : Str) 9) = Txt.join (" " : Str) (["form", "aaaaaaaaa"] : List Str) := by decide +kernel
    rw [e]
    exact ref_cmd (join_tl _ _) (by decide +kernel) (by decide) (by decide +kernel) (by decide) (by decide) (by decide) (.inl ⟨by unfold isNear; decide +kernel, Option.isNone_iff_eq_none.mp (by decide +kernel)⟩)
  · exact fun H Q E en => ⟨_, rfl, .inl ⟨.inr (.inr ⟨_, rfl, by decide, by decide +kernel⟩), en⟩⟩
  · exact fun H Q E en => ⟨_, rfl, .inl ⟨.inr (.inl ⟨_, rfl, by decide +kernel, by decide +kernel⟩), en⟩⟩
theorem empty_ok {x : Str} {H : Hp} {Q : VK} {E : XK} (hl : x.length ≤ 900) (h1 : isLineB x = true) (h2 : (Txt.words x).length = 0 ∨ Txt.startswith x ("#" : Str) = true) (q : ∀ p H', Same H H' → SqT K H' p [.str "empty"] → Q (.ref p) H') : sp_read_line K CG CL XM XR X [.str x] H Q E :=
  ⟨.str x, rfl, .inr ⟨x, rfl, hl, h1, .inl ⟨h2, q⟩⟩⟩
end

end
end K50
namespace K50
open PySem PySem.Spec PyProof.Rows L2 Gm
open C8 (Cal Met Mak pe_c pe_mt pe_mt0 pe_mk)
section
variable {P : Program} {w : World} {K : PySem.W.Frag} {mg : Str → Option Value} {base : Heap}
/-! ### the law -/
structure G0 (K : PySem.W.Frag) (CG CL : Addr) (H : Hp) (p wa : Addr) (cv : V) (c : LC) (ln : Str) : Prop where
  nu : NumAt H p
  gd : GoodC c
  cm : IsLC K CG CL H cv c
  ws : H wa = some (.lst ((wordsC c).map V.str))
  wp : wa ≠ p
  lw : ∃ w0 ps, wordsC c = w0 :: ps.map Prod.snd ∧ (∀ q ∈ ps, q.1 ∈ spaceL) ∧ TL.tl ln = TL.tl w0 ++ glueS ps
  ll : ln.length ≤ 700
def M0 (K : PySem.W.Frag) (CG CL : Addr) : L2.St → Hp → Prop := fun σ H => ∃ (s0 : Option V) (p wa : Addr) (cv : V) (c : LC) (ln : Str),
  σ = [s0, some (.ref p), some cv, some (.ref wa), some (.str ln), none, none, none, none] ∧ G0 K CG CL H p wa cv c ln
theorem lc_same {K : PySem.W.Frag} {CG CL : Addr} {H H' : Hp} {v : V} {c : LC} (s : Same H H') (h : IsLC K CG CL H v c) : IsLC K CG CL H' v c := by
  cases c with
  | cmd c =>
    obtain ⟨p, rfl, h⟩ := h
    refine ⟨p, rfl, ?_⟩
    cases c with
    | near n a d =>
      obtain ⟨t, h1, h2⟩ := h
      exact ⟨t, Same.seqT s h1, Same.seqT s h2⟩
    | alone w n => exact Same.seqT s h
    | alike n k => exact Same.seqT s h
    | num w n z => exact Same.seqT s h
  | lat n z =>
    obtain ⟨p, lv, rfl, h1, h2⟩ := h
    exact ⟨p, lv, rfl, Same.seqT s h1, lat_same s h2⟩
theorem seqT_off {K : PySem.W.Frag} {H H' : Hp} {p a : Addr} {xs : List V} (nu : NumAt H p) (o : Off p H H') (h : SqT K H a xs) : SqT K H' a xs := by
  obtain ⟨ns, e, _⟩ := nu
  rcases h with (h | ⟨t, h⟩) | h
  · exact .inl (.inl (o _ _ (fun z => by rw [z, e] at h; cases h) h))
  · exact .inl (.inr ⟨t, o _ _ (fun z => by rw [z, e] at h; cases h) h⟩)
  · exact .inr h
theorem lc_off {K : PySem.W.Frag} {CG CL : Addr} {H H' : Hp} {p : Addr} {v : V} {c : LC} (nu : NumAt H p) (o : Off p H H') (h : IsLC K CG CL H v c) : IsLC K CG CL H' v c := by
  cases c with
  | cmd c =>
    obtain ⟨q, rfl, h⟩ := h
    refine ⟨q, rfl, ?_⟩
    cases c with
    | near n a d =>
      obtain ⟨t, h1, h2⟩ := h
      exact ⟨t, seqT_off nu o h1, seqT_off nu o h2⟩
    | alone w n => exact seqT_off nu o h
    | alike n k => exact seqT_off nu o h
    | num w n z => exact seqT_off nu o h
  | lat n z =>
    obtain ⟨q, lv, rfl, h1, h2⟩ := h
    obtain ⟨⟨q2, dx, g, e, ho, G⟩, gm⟩ := h2
    obtain ⟨⟨q3, d3, t3, e3, ho3, ht3⟩, hw⟩ := G
    obtain ⟨ns, el, _⟩ := id nu
    exact ⟨q, lv, rfl, seqT_off nu o h1, ⟨q2, dx, g, e, o _ _ (ne_of ho el (by intro z; cases z)) ho, ⟨q3, d3, t3, e3, o _ _ (ne_of ho3 el (by intro z; cases z)) ho3, ht3.off el o⟩, hw⟩, gm⟩
theorem G0.same {K : PySem.W.Frag} {CG CL : Addr} {H H' : Hp} {p wa : Addr} {cv : V} {c : LC} {ln : Str} (s : Same H H') (g : G0 K CG CL H p wa cv c ln) : G0 K CG CL H' p wa cv c ln :=
  ⟨num_same s g.nu, g.gd, lc_same s g.cm, s _ _ g.ws, g.wp, g.lw, g.ll⟩
theorem words_w {c : LC} (g : GoodC c) : 0 < (wordsC c).length ∧ (wordsC c).length ≤ 10 ∧ ∀ w ∈ wordsC c, TL.tl w ≠ [] ∧ w.length ≤ 60 := by
  cases c with
  | cmd c =>
    obtain ⟨w0, rest, W, F, _⟩ := good_W g
    have ln := W.ln
    rw [W.eq]
    refine ⟨Nat.succ_pos _, by rw [List.length_cons]; omega, fun w hw => ?_⟩
    rcases List.mem_cons.mp hw with rfl | hw
    · exact ⟨(plain_W W.p0).1.1, by have := W.l0; omega⟩
    · exact ⟨(plain_W (W.pr w hw)).1.1, by have := W.lr w hw; omega⟩
  | lat n z =>
    obtain ⟨hn, z1, z50⟩ : n ∈ nameL ∧ 1 ≤ z ∧ z ≤ 50 := by
      cases g with
      | lat a b c => exact ⟨a, b, c⟩
    obtain ⟨n1, n2, n3⟩ := name_plain n hn
    have L := let_W z1 z50
    refine ⟨by show 0 < 4; decide, by show 4 ≤ 10; decide, fun w hw => ?_⟩
    have hw : w ∈ (["let", n, "=", letT z] : List Str) := hw
    simp only [List.mem_cons, List.not_mem_nil, or_false] at hw
    rcases hw with rfl | rfl | rfl | rfl
    · exact ⟨by decide, by decide⟩
    · exact ⟨(plain_W n1).1.1, by omega⟩
    · exact ⟨by decide, by decide⟩
    · refine ⟨?_, by have := L.len; omega⟩
      rw [L.gl]
      intro h
      exact (plain_W (L.pl _ (List.mem_cons_self ..)).1).1.1 (List.append_eq_nil_iff.mp h).1
theorem cmd_head {K : PySem.W.Frag} {H : Hp} {p : Addr} {c : Cmd} (g : GoodC (.cmd c)) (h : IsCmd K H p c) : ∃ w vs, SqT K H p (.str w :: vs) ∧ w ≠ ("let" : Str) ∧ (isLN (.cmd c) = false → w ≠ ("nearest" : Str)) ∧ (isLN (.cmd c) = true → w = ("nearest" : Str)) := by
  cases g with
  | @alone w n hw hn =>
    obtain ⟨f, f1, f2, f3, _⟩ := alone_facts w hw
    exact ⟨w, _, h, of_decide_eq_false f2, fun _ => of_decide_eq_false f3, fun z => (by cases z)⟩
  | alike a b => exact ⟨_, _, h, by decide, fun _ => (by decide), fun z => (by cases z)⟩
  | short a b d => exact ⟨_, _, h, by decide, fun _ => (by decide), fun z => (by cases z)⟩
  | below a b d => exact ⟨_, _, h, by decide, fun _ => (by decide), fun z => (by cases z)⟩
  | near a b d e f i =>
    obtain ⟨t, h, _⟩ := h
    exact ⟨_, _, h, by decide, fun z => (by cases z), fun _ => rfl⟩
/-- behind the for, nothing but the line and the words counts -/
structure G1 (H : Hp) (wa : Addr) (c : LC) (ln : Str) : Prop where
  gd : GoodC c
  ws : H wa = some (.lst ((wordsC c).map V.str))
  lw : ∃ w0 ps, wordsC c = w0 :: ps.map Prod.snd ∧ (∀ q ∈ ps, q.1 ∈ spaceL) ∧ TL.tl ln = TL.tl w0 ++ glueS ps
  ll : ln.length ≤ 700
theorem ch4 (T : Top K mg) (hN : base.NoSeer) (hT : P.given.tree = none) {cdv : Value} {A : Around} {outer : List Env} {s : Shared} {H0 : Hp} {E : XK} (hr : Room 50 (A.deeper (envOfC "law" (defScope s_law) s.heap.objs.size T.a_law cdv)))
    {M : L2.St → Hp → Prop} (next : PSs (XL P w base T cdv A outer s H0 E) ((defBody s_law).drop 6) (tK M)) (hM : ∀ σ H, M0 K T.C_Grid T.C_Lattice σ H → M σ H) :
    PSs (XL P w base T cdv A outer s H0 E) ((defBody s_law).drop 4) (tK (M0 K T.C_Grid T.C_Lattice)) := by
  refine pss_wk ((pss_cons (ps_if (PW.pt (pw_or (pt_cmpR (op_neC T hN hT rfl rfl rfl rfl rfl (hr.mono (by decide))) (pe_call (E := L2.E0) (ok_read_line T hN hT) (hr.mono (by decide)) (by rfl) T.g_read_line T.F_read_line.kp T.b_read_line .nil (passes_call takes0 (fun _ _ _ _ h => h)) (pa_cons (pv 4) pa_nil)) (pv 2) (nomark _)) (pw_or1 (pt_cmpR (op_neC T hN hT rfl rfl rfl rfl rfl (hr.mono (by decide))) (pe_call (E := L2.E0) (ok_read_line T hN hT) (hr.mono (by decide)) (by rfl) T.g_read_line T.F_read_line.kp T.b_read_line .nil (passes_call takes0 (fun _ _ _ _ h => h)) (pa_cons (pe_op op_add_str (pe_op op_add_str pe_str (pv 4)) pe_str) pa_nil)) (pv 2) (nomark _)))))
      (pss_one (ps_ret pe_bl))
      pss_nil)
      (pss_cons (ps_if (PW.pt (pw_and (pt_cmpR op_eq (pe_ix (ixT K rfl) (pv 2) pe_int (fun _ _ => rfl)) pe_str (nomark _)) (pw_and1 (pt_cmpR (op_neC T hN hT rfl rfl rfl rfl rfl (hr.mono (by decide))) (pe_call (E := L2.E0) (ok_read_line T hN hT) (hr.mono (by decide)) (by rfl) T.g_read_line T.F_read_line.kp T.b_read_line .nil (passes_call takes0 (fun _ _ _ _ h => h)) (pa_cons (pe_op op_add_str (pe_op op_add_str (pe_op op_add_str pe_str (pe_ix (ixL K rfl) (pv 3) pe_int (fun _ _ => rfl))) pe_str) (pe_ix (ixL K rfl) (pv 3) pe_int (fun _ _ => rfl))) pa_nil)) (pv 2) (nomark _)))))
      (pss_one (ps_ret pe_bl))
      pss_nil)
      next))) ?_
  rintro D σ H ⟨⟨s0, p, wa, cv, c, ln, rfl, f⟩, q⟩
  obtain ⟨w0, ps, hw, hs, hl⟩ := f.lw
  have ll := f.ll
  have back : ∀ {x : Str} {i j : Nat} {H1 : Hp} {Q : VK}, TL.tl x = List.replicate i 32 ++ ((TL.tl w0 ++ glueS ps) ++ List.replicate j 32) → i ≤ 3 → j < 3 → Same H H1 → x.length ≤ 900 → (∀ v H', Same H1 H' → IsLC K T.C_Grid T.C_Lattice H' v c → Q v H') → sp_read_line K T.C_Grid T.C_Lattice T.X_Malformed T.X_Refused T.X_NoText [.str x] H1 Q L2.E0 := fun {x i j H1 Q} e hi hj s1 lx q => line_back f.gd e hi hj hw hs lx q
  have hz : 100000 ≤ sizeLine := by decide
  have la : ∀ (x y : Str), (x ++ y).length = x.length + y.length := fun x y => by rw [TL.len_tl, TL.tl_append, List.length_append, ← TL.len_tl, ← TL.len_tl]
  have ext : ∀ {H1 H2 : Hp}, L2.Ext H1 H2 → Same H1 H2 := fun e b o x => e b o x
  refine ⟨_, rfl, ?_⟩
  dsimp only [tNil]
  refine back (i := 0) (j := 0) (by rw [hl]; simp) (by decide) (by decide) (Same.refl _) (by omega) fun v1 H1 s1 c1 => ?_
  refine ⟨_, rfl, lc_eqv c1 (lc_same s1 f.cm), fun H2 e2 => ⟨_, rfl, ?_⟩⟩
  refine iteF ?_
  have s02 := s1.trans (ext e2)
  refine ⟨_, rfl, _, _, rfl, rfl, by show 1 + ln.length ≤ sizeLine; omega, _, _, rfl, rfl, by show ((" " : Str) ++ ln).length + 2 ≤ sizeLine; rw [la]; show 1 + ln.length + 2 ≤ sizeLine; omega, ?_⟩
  dsimp only [tNil]
  refine back (i := 1) (j := 2) (by rw [TL.tl_append, TL.tl_append, hl]; exact List.append_assoc _ _ _) (by decide) (by decide) s02 (by rw [la, la]; show 1 + ln.length + 2 ≤ 900; omega) fun v3 H3 s3 c3 => ?_
  have f3 := (f.same s02).same s3
  refine ⟨_, rfl, lc_eqv c3 f3.cm, fun H4 e4 => ⟨_, rfl, ?_⟩⟩
  refine iteF ?_
  have f4 := f3.same (ext e4)
  have s04 := s02.trans (s3.trans (ext e4))
  have fin : ∀ {H9 : Hp}, Same H H9 → (tK M) D [s0, some (.ref p), some cv, some (.ref wa), some (.str ln), none, none, none, none] H9 := fun {H9} s9 => ⟨hM _ _ ⟨s0, p, wa, cv, c, ln, rfl, f.same s9⟩, q⟩
  refine ⟨_, rfl, ?_⟩
  have gd := f.gd
  cases c with
  | cmd c =>
    obtain ⟨t, rfl, hc⟩ := f4.cm
    obtain ⟨wd, vs, ht, nl, _⟩ := cmd_head gd hc
    refine ⟨t, _, _, _, rfl, rfl, ht, at_of (j := 0) rfl rfl, rfl, _, rfl, ?_⟩
    rw [decide_eq_false fun z => nl (V.str.inj z)]
    exact iteF (iteF (fin s04))
  | lat n z =>
    obtain ⟨t, lv, rfl, ht, hL⟩ := f4.cm
    obtain ⟨hn, z1, z50⟩ : n ∈ nameL ∧ 1 ≤ z ∧ z ≤ 50 := by
      cases gd with
      | lat a b c => exact ⟨a, b, c⟩
    obtain ⟨n1, n2, n3⟩ := name_plain n hn
    have L := let_W z1 z50
    have L40 := L.len
    refine ⟨t, _, _, _, rfl, rfl, ht, at_of (j := 0) rfl rfl, rfl, _, rfl, ?_⟩
    rw [decide_eq_true (rfl : V.str ("let" : Str) = V.str ("let" : Str))]
    refine iteT ?_
    have hws : SqL K H4 wa ([.str "let", .str n, .str "=", .str (letT z)] : List V) := .inl (.inl f4.ws)
    refine ⟨_, rfl, wa, _, _, _, rfl, rfl, hws, at_of (j := 1) rfl rfl, _, _, rfl, rfl, by show 4 + n.length ≤ sizeLine; omega, _, _, rfl, rfl, by rw [la]; show 4 + n.length + 1 ≤ sizeLine; omega, _, rfl, wa, _, _, _, rfl, rfl, hws, at_of (j := 3) rfl rfl, _, _, rfl, rfl, by rw [la, la]; show 4 + n.length + 1 + (letT z).length ≤ sizeLine; omega, ?_⟩
    dsimp only [tNil]
    refine let_back (i := 0) (s := " ") (b := 0) (a := 0) (j := 0) (n := n) (z := z) ?_ (List.mem_cons_self ..) hn z1 z50 (by decide) (by decide) (by decide) (by decide) fun p5 lv5 H5 s5 hp5 hL5 => ?_
    · rw [TL.tl_append, TL.tl_append, TL.tl_append]
      show ((TL.tl ("let " : Str) ++ TL.tl n) ++ [61]) ++ TL.tl (letT z) = ([] ++ ((TL.tl ("let" : Str) ++ (TL.tl (" " : Str) ++ (TL.tl n ++ []))) ++ [])) ++ (61 :: ([] ++ (TL.tl (letT z) ++ [])))
      rw [show TL.tl ("let " : Str) = TL.tl ("let" : Str) ++ TL.tl (" " : Str) from rfl]
      simp only [List.append_nil, List.append_assoc, List.nil_append, List.cons_append]
    · refine ⟨_, rfl, lc_eqv (c := .lat n z) ⟨p5, lv5, rfl, hp5, hL5⟩ (f4.same s5).cm, fun H6 e6 => ⟨_, rfl, ?_⟩⟩
      exact iteF (fin (s04.trans (s5.trans (ext e6))))

end
end K50
namespace K50
open PySem PySem.Spec PyProof.Rows L2 Gm
open C8 (Cal Met Mak pe_c pe_mt pe_mt0 pe_mk)
section
variable {P : Program} {w : World} {K : PySem.W.Frag} {mg : Str → Option Value} {base : Heap}
theorem cut_takeS {xs : List V} {k : Nat} : cutV xs none (some (k : Int)) = xs.take k := by
  unfold cutV
  have e2 : HT.sIx xs.length xs.length (some (k : Int)) = min k xs.length := by
    show (if (k : Int) < 0 then ((k : Int) + (xs.length : Int)).toNat else min (k : Int).toNat xs.length) = _
    rw [if_neg (by omega)]
    rfl
  rw [e2, HT.sIx_none]
  show (xs.drop 0).take (min k xs.length - 0) = _
  rw [List.drop_zero, Nat.sub_zero]
  by_cases h : k ≤ xs.length
  · rw [Nat.min_eq_left h]
  · rw [Nat.min_eq_right (by omega), List.take_length, List.take_of_length_le (by omega)]
theorem cut_dropS {xs : List V} {k : Nat} : cutV xs (some (k : Int)) none = xs.drop k := by
  unfold cutV
  have e1 : HT.sIx xs.length 0 (some (k : Int)) = min k xs.length := by
    show (if (k : Int) < 0 then ((k : Int) + (xs.length : Int)).toNat else min (k : Int).toNat xs.length) = _
    rw [if_neg (by omega)]
    rfl
  rw [e1, HT.sIx_none]
  by_cases h : k ≤ xs.length
  · rw [Nat.min_eq_left h]
    exact List.take_of_length_le (by rw [List.length_drop]; exact Nat.le_refl _)
  · rw [Nat.min_eq_right (by omega), List.drop_of_length_le (by omega), List.drop_of_length_le (by omega), List.take_nil]
def BL (H : Hp) (b : Addr) (L : List (List Str)) : Prop := ∃ vs, H b = some (.lst vs) ∧ Paired (fun v ws => ∃ q, v = V.ref q ∧ q ≠ b ∧ H q = some (.lst (ws.map V.str))) vs L
structure G2 (K : PySem.W.Frag) (H : Hp) (p wa : Addr) (cv : V) (c : LC) (ln : Str) : Prop where
  nu : NumAt H p
  gd : GoodC c
  hd : ∃ t w vs, cv = .ref t ∧ SqT K H t (.str w :: vs) ∧ (isLN c = false → w ≠ ("let" : Str) ∧ w ≠ ("nearest" : Str)) ∧ (isLN c = true → w = ("let" : Str) ∨ w = ("nearest" : Str))
  ws : H wa = some (.lst ((wordsC c).map V.str))
  wp : wa ≠ p
  lw : ∃ w0 ps, wordsC c = w0 :: ps.map Prod.snd ∧ (∀ q ∈ ps, q.1 ∈ spaceL) ∧ TL.tl ln = TL.tl w0 ++ glueS ps
  ll : ln.length ≤ 700
theorem G0.two {K : PySem.W.Frag} {CG CL : Addr} {H : Hp} {p wa : Addr} {cv : V} {c : LC} {ln : Str} (g : G0 K CG CL H p wa cv c ln) : G2 K H p wa cv c ln := by
  refine ⟨g.nu, g.gd, ?_, g.ws, g.wp, g.lw, g.ll⟩
  have gd := g.gd
  cases c with
  | cmd c =>
    obtain ⟨t, rfl, hc⟩ := g.cm
    obtain ⟨wd, vs, ht, nl, n1, n2⟩ := cmd_head gd hc
    exact ⟨t, wd, vs, rfl, ht, fun z => ⟨nl, n1 z⟩, fun z => .inr (n2 z)⟩
  | lat n z =>
    obtain ⟨t, lv, rfl, ht, _⟩ := g.cm
    exact ⟨t, _, _, rfl, ht, fun z => (by cases z), fun _ => .inl rfl⟩
theorem seqT_offB {K : PySem.W.Frag} {H H' : Hp} {b a : Addr} {l : List V} {xs : List V} (e : H b = some (.lst l)) (o : Off b H H') (h : SqT K H a xs) : SqT K H' a xs := by
  rcases h with (h | ⟨t, h⟩) | h
  · exact .inl (.inl (o _ _ (fun z => by rw [z, e] at h; cases h) h))
  · exact .inl (.inr ⟨t, o _ _ (fun z => by rw [z, e] at h; cases h) h⟩)
  · exact .inr h
theorem G2.off {K : PySem.W.Frag} {H H' : Hp} {p wa b : Addr} {cv : V} {c : LC} {ln : Str} {l : List V} (e : H b = some (.lst l)) (hp : p ≠ b) (hw : wa ≠ b) (o : Off b H H') (g : G2 K H p wa cv c ln) : G2 K H' p wa cv c ln := by
  obtain ⟨⟨ns, en, ln'⟩, gd, ⟨t, w, vs, e1, e2, e3⟩, ws, wp, lw, ll⟩ := g
  exact ⟨⟨ns, o _ _ hp en, ln'⟩, gd, ⟨t, w, vs, e1, seqT_offB e o e2, e3⟩, o _ _ hw ws, wp, lw, ll⟩
theorem G2.same {K : PySem.W.Frag} {H H' : Hp} {p wa : Addr} {cv : V} {c : LC} {ln : Str} (s : Same H H') (g : G2 K H p wa cv c ln) : G2 K H' p wa cv c ln := by
  obtain ⟨nu, gd, ⟨t, w, vs, e1, e2, e3⟩, ws, wp, lw, ll⟩ := g
  exact ⟨num_same s nu, gd, ⟨t, w, vs, e1, Same.seqT s e2, e3⟩, s _ _ ws, wp, lw, ll⟩
theorem BL.same {H H' : Hp} {b : Addr} {L : List (List Str)} (s : Same H H') (h : BL H b L) : BL H' b L := by
  obtain ⟨vs, e, p⟩ := h
  exact ⟨vs, s _ _ e, L2.Paired.mapP p fun v ws ⟨q, e1, e2, e3⟩ => ⟨q, e1, e2, s _ _ e3⟩⟩
theorem paired_snoc {α β : Type} {R : α → β → Prop} : ∀ {xs : List α} {ys : List β} {x : α} {y : β}, Paired R xs ys → R x y → Paired R (xs ++ [x]) (ys ++ [y])
  | _, _, _, _, .nil, h => .cons h .nil
  | _, _, _, _, .cons a t, h => .cons a (paired_snoc t h)
structure G3 (K : PySem.W.Frag) (H : Hp) (p wa b : Addr) (cv : V) (c : LC) (ln : Str) (L : List (List Str)) : Prop where
  g : G2 K H p wa cv c ln
  bl : BL H b L
  bp : p ≠ b
  bw : wa ≠ b
theorem G3.same {K : PySem.W.Frag} {H H' : Hp} {p wa b : Addr} {cv : V} {c : LC} {ln : Str} {L : List (List Str)} (s : Same H H') (g : G3 K H p wa b cv c ln L) : G3 K H' p wa b cv c ln L := ⟨g.g.same s, g.bl.same s, g.bp, g.bw⟩
/-- a list is appended -/
theorem G3.app {K : PySem.W.Frag} {H : Hp} {p wa b q : Addr} {cv : V} {c : LC} {ln : Str} {L : List (List Str)} {ws : List Str} (g : G3 K H p wa b cv c ln L) (hq : H q = some (.lst (ws.map V.str))) (hb : q ≠ b) : ∃ vs, H b = some (.lst vs) ∧ vs.length = L.length ∧ G3 K (upd H b (.lst (vs ++ [V.ref q]))) p wa b cv c ln (L ++ [ws]) := by
  obtain ⟨vs, e, pr⟩ := g.bl
  have o : Off b H (upd H b (.lst (vs ++ [V.ref q]))) := fun a u n h => by rw [upd_ne n]; exact h
  refine ⟨vs, e, Paired.length pr, g.g.off e g.bp g.bw o, ⟨_, upd_same, ?_⟩, g.bp, g.bw⟩
  refine paired_snoc (L2.Paired.mapP pr fun v ws ⟨q, e1, e2, e3⟩ => ⟨q, e1, e2, o _ _ e2 e3⟩) ⟨q, rfl, hb, o _ _ hb hq⟩
def M6 (K : PySem.W.Frag) (L : LC → List (List Str)) : L2.St → Hp → Prop := fun σ H => ∃ (s0 : Option V) (p wa b : Addr) (cv : V) (c : LC) (ln : Str),
  σ = [s0, some (.ref p), some cv, some (.ref wa), some (.str ln), some (.ref b), none, none, none] ∧ G3 K H p wa b cv c ln (L c)
theorem words_two {c : LC} (g : GoodC c) : ∃ w0 w1 r, wordsC c = w0 :: w1 :: r ∧ r.length ≤ 8 := by
  have h10 := (words_w g).2.1
  have h2 : 2 ≤ (wordsC c).length := by
    cases c with
    | cmd c => cases c <;> simp [wordsC]
    | lat n z => simp [wordsC]
  rcases e : wordsC c with _ | ⟨w0, _ | ⟨w1, r⟩⟩
  · rw [e] at h2; exact absurd h2 (by decide)
  · rw [e] at h2; exact absurd h2 (by show ¬ 2 ≤ 1; decide)
  · rw [e] at h10
    exact ⟨w0, w1, r, rfl, by simp at h10; omega⟩
theorem fresh_of {H H' : Hp} {q : Addr} (s : Same H H') (n : H' q = none) : H q = none := by
  cases h : H q with
  | none => rfl
  | some o => rw [s _ _ h] at n; cases n
theorem rd_cut {K : PySem.W.Frag} {σ : L2.St} {H : Hp} {Q : VK} {wa : Addr} {L : List Str} (h3 : σ[3]? = some (some (.ref wa))) (hws : SqL K H wa (L.map V.str)) (q : ∀ a H', Same H H' → H a = none → H' a = some (.lst ((L.take 1).map V.str)) → Q (.ref a) H') :
    tSl (rSlL K) (tVar 3) tNoPart (tPart (tC (V.int 1))) σ H Q := by
  refine ⟨_, h3, ?_⟩
  dsimp only [tNoPart]
  refine ⟨1, rfl, wa, _, rfl, hws, fun a na => q a _ (same_upd na) na ?_⟩
  rw [upd_same, show cutV (L.map V.str) none (some 1) = (L.map V.str).take 1 from cut_takeS (k := 1), List.map_take]
theorem rd_tail {K : PySem.W.Frag} {σ : L2.St} {H : Hp} {Q : VK} {wa : Addr} {L : List Str} {k : Nat} (h3 : σ[3]? = some (some (.ref wa))) (hws : SqL K H wa (L.map V.str)) (q : ∀ a H', Same H H' → H a = none → H' a = some (.lst ((L.drop k).map V.str)) → Q (.ref a) H') :
    tSl (rSlL K) (tVar 3) (tPart (tC (V.int (k : Int)))) tNoPart σ H Q := by
  refine ⟨_, h3, (k : Int), rfl, ?_⟩
  dsimp only [tNoPart]
  refine ⟨wa, _, rfl, hws, fun a na => q a _ (same_upd na) na ?_⟩
  rw [upd_same, show cutV (L.map V.str) (some (k : Int)) none = (L.map V.str).drop k from cut_dropS, List.map_drop]
theorem rd_mid {K : PySem.W.Frag} {σ : L2.St} {H : Hp} {Q : VK} {wa : Addr} {L : List Str} {x : Str} (h3 : σ[3]? = some (some (.ref wa))) (hws : SqL K H wa (L.map V.str)) (hl : L.length ≤ 10) (q : ∀ a H', Same H H' → H a = none → H' a = some (.lst ((L.take 1 ++ ([x] : List Str) ++ L.drop 2).map V.str)) → Q (.ref a) H') :
    tOp rCat (tOp rCat (tSl (rSlL K) (tVar 3) tNoPart (tPart (tC (V.int 1)))) (tLst (tCons (tC (V.str x)) tNil))) (tSl (rSlL K) (tVar 3) (tPart (tC (V.int 2))) tNoPart) σ H Q := by
  have hz : 100000 ≤ sizeLine := by decide
  have l1 : (L.take 1).length ≤ 1 := by rw [List.length_take]; omega
  have l2 : (L.drop 2).length ≤ 10 := by rw [List.length_drop]; omega
  refine rd_cut h3 hws fun a1 H1 s1 n1 e1 => ?_
  refine ⟨by show 1 ≤ sizeLine; decide, fun a2 na2 => ?_⟩
  have s2 := same_upd (o := .lst [V.str x]) na2
  have e2 : (upd H1 a2 (.lst [V.str x])) a2 = some (.lst [V.str x]) := upd_same
  generalize upd H1 a2 (.lst [V.str x]) = H2 at s2 e2 ⊢
  refine ⟨a1, a2, _, _, rfl, rfl, s2 _ _ e1, e2, by rw [List.length_map]; show (L.take 1).length + 1 ≤ sizeLine; omega, fun a3 na3 => ?_⟩
  have s3 := same_upd (o := .lst ((L.take 1).map V.str ++ [V.str x])) na3
  have e3 : (upd H2 a3 (.lst ((L.take 1).map V.str ++ [V.str x]))) a3 = some (.lst ((L.take 1).map V.str ++ [V.str x])) := upd_same
  generalize upd H2 a3 (.lst ((L.take 1).map V.str ++ [V.str x])) = H3 at s3 e3 ⊢
  have s03 := s1.trans (s2.trans s3)
  refine rd_tail (k := 2) h3 (sqL_same s03 hws) fun a4 H4 s4 n4 e4 => ?_
  refine ⟨a3, a4, _, _, rfl, rfl, s4 _ _ e3, e4, by rw [List.length_append, List.length_map, List.length_map]; show (L.take 1).length + 1 + (L.drop 2).length ≤ sizeLine; omega, fun a5 na5 => ?_⟩
  refine q a5 _ ((s03.trans s4).trans (same_upd na5)) (fresh_of (s03.trans s4) na5) ?_
  rw [upd_same, List.map_append, List.map_append]
  rfl
theorem rd_app {K : PySem.W.Frag} {t : TE} {σ : L2.St} {H : Hp} {Q : VK} {p wa b : Addr} {cv : V} {c : LC} {ln : Str} {L : List (List Str)} {ws : List Str} (hL : L.length ≤ 20) (h5 : σ[5]? = some (some (.ref b))) (g : G3 K H p wa b cv c ln L)
    (ht : ∀ Q' : VK, (∀ a H', Same H H' → H a = none → H' a = some (.lst (ws.map V.str)) → Q' (.ref a) H') → t σ H Q') (q : ∀ H', G3 K H' p wa b cv c ln (L ++ [ws]) → Q .non H') : tBM K "list" rAppend (tVar 5) (tCons t tNil) σ H Q := by
  have hz : 100000 ≤ sizeLine := by decide
  obtain ⟨vs0, e0, _⟩ := id g.bl
  refine ⟨_, h5, .inl ⟨rfl, vs0, .inl (.inl e0)⟩, ?_⟩
  refine ht _ fun a H1 s1 na e1 => ?_
  have nb : a ≠ b := fun z => by rw [z, e0] at na; cases na
  obtain ⟨vs, e, lv, g'⟩ := (g.same s1).app e1 nb
  exact ⟨b, vs, _, rfl, rfl, e, by omega, q _ g'⟩
theorem ch6 (T : Top K mg) (hN : base.NoSeer) (hT : P.given.tree = none) {cdv : Value} {A : Around} {outer : List Env} {s : Shared} {H0 : Hp} {E : XK} (hr : Room 50 (A.deeper (envOfC "law" (defScope s_law) s.heap.objs.size T.a_law cdv)))
    {M : L2.St → Hp → Prop} (next : PSs (XL P w base T cdv A outer s H0 E) ((defBody s_law).drop 8) (tK M)) (hM : ∀ σ H, M6 K (fun c => headB (wordsC c)) σ H → M σ H) :
    PSs (XL P w base T cdv A outer s H0 E) ((defBody s_law).drop 6) (tK (M0 K T.C_Grid T.C_Lattice)) := by
  refine pss_wk ((pss_cons (ps_set (i := 5) sc_law.nd rfl (by first | exact .inl rfl | exact .inr rfl) (pe_lst (pa_cons (pe_slice (slLK K rfl) (pv 3) po_none (po_some pe_int)) (pa_cons (pe_lst (pa_cons pe_str (pa_cons (pe_ix (ixL K rfl) (pv 3) pe_int (fun _ _ => rfl)) pa_nil))) (pa_cons (pe_op op_cat (pe_lst (pa_cons (pe_upper (pe_ix (ixL K rfl) (pv 3) pe_int (fun _ _ => rfl))) pa_nil)) (pe_slice (slLK K rfl) (pv 3) (po_some pe_int) po_none)) (pa_cons (pe_op op_cat (pe_op op_cat (pe_slice (slLK K rfl) (pv 3) po_none (po_some pe_int)) (pe_lst (pa_cons pe_str pa_nil))) (pe_slice (slLK K rfl) (pv 3) (po_some pe_int) po_none)) pa_nil))))))
      (pss_cons (ps_expr (pe_bm PySem.F.plainAttrs_list PySem.F.slot_list_append PySem.F.type_list_append mt_append (pv 5) (pa_cons (pe_op op_cat (pe_op op_cat (pe_slice (slLK K rfl) (pv 3) po_none (po_some pe_int)) (pe_lst (pa_cons pe_str pa_nil))) (pe_slice (slLK K rfl) (pv 3) (po_some pe_int) po_none)) pa_nil)))
      next))) ?_
  rintro D σ H ⟨⟨s0, p, wa, cv, c, ln, rfl, f0⟩, q⟩
  have f := f0.two
  obtain ⟨w0, w1, r, hw, hr8⟩ := words_two f.gd
  have hws := f.ws
  rw [hw] at hws
  have hz : 100000 ≤ sizeLine := by decide
  have hws : SqL K H wa ((wordsC c).map V.str) := .inl (.inl f.ws)
  have l10 := (words_w f.gd).2.1
  refine rd_cut rfl hws fun a1 H1 s1 n1 e1 => ?_
  have hw1 := sqL_same s1 hws
  have hix : ∀ {j : Nat}, j < (wordsC c).length → ((wordsC c).map V.str)[j]? = some (.str ((wordsC c).getD j "")) := fun {j} hj => by
    rw [List.getElem?_map, List.getD_eq_getElem?_getD, List.getElem?_eq_getElem hj]
    rfl
  have l2 : 2 ≤ (wordsC c).length := by rw [hw, List.length_cons, List.length_cons]; omega
  refine ⟨_, rfl, wa, _, _, _, rfl, rfl, hw1, at_of (j := 1) rfl (hix (by omega)), by show 2 ≤ sizeLine; decide, fun a2 na2 => ?_⟩
  have s2 := same_upd (o := .lst [V.str "short", V.str ((wordsC c).getD 1 "")]) na2
  have e2 : (upd H1 a2 (.lst [V.str "short", V.str ((wordsC c).getD 1 "")])) a2 = some (.lst [V.str "short", V.str ((wordsC c).getD 1 "")]) := upd_same
  generalize upd H1 a2 (.lst [V.str "short", V.str ((wordsC c).getD 1 "")]) = H2 at s2 e2 ⊢
  have hw2 := sqL_same s2 hw1
  have lw0 : ((wordsC c).getD 0 "").length ≤ 60 := by
    rw [hw]
    exact ((words_w f.gd).2.2 w0 (by rw [hw]; exact List.mem_cons_self ..)).2
  refine ⟨_, rfl, wa, _, _, _, rfl, rfl, hw2, at_of (j := 0) rfl (hix (by omega)), ⟨_, rfl⟩, _, rfl, rfl, by omega, by show 1 ≤ sizeLine; decide, fun a3 na3 => ?_⟩
  have s3 := same_upd (o := .lst [V.str (Txt.upper ((wordsC c).getD 0 ""))]) na3
  have e3 : (upd H2 a3 (.lst [V.str (Txt.upper ((wordsC c).getD 0 ""))])) a3 = some (.lst [V.str (Txt.upper ((wordsC c).getD 0 ""))]) := upd_same
  generalize upd H2 a3 (.lst [V.str (Txt.upper ((wordsC c).getD 0 ""))]) = H3 at s3 e3 ⊢
  have hw3 := sqL_same s3 hw2
  refine rd_tail (k := 1) rfl hw3 fun a4 H4 s4 n4 e4 => ?_
  refine ⟨a3, a4, _, _, rfl, rfl, s4 _ _ e3, e4, by rw [List.length_map, List.length_drop]; show 1 + ((wordsC c).length - 1) ≤ sizeLine; omega, fun a5 na5 => ?_⟩
  have s5 := same_upd (o := .lst ([V.str (Txt.upper ((wordsC c).getD 0 ""))] ++ ((wordsC c).drop 1).map V.str)) na5
  have e5 : (upd H4 a5 (.lst ([V.str (Txt.upper ((wordsC c).getD 0 ""))] ++ ((wordsC c).drop 1).map V.str))) a5 = some (.lst ([V.str (Txt.upper ((wordsC c).getD 0 ""))] ++ ((wordsC c).drop 1).map V.str)) := upd_same
  generalize upd H4 a5 (.lst ([V.str (Txt.upper ((wordsC c).getD 0 ""))] ++ ((wordsC c).drop 1).map V.str)) = H5 at s5 e5 ⊢
  have hw5 := sqL_same (s4.trans s5) hw3
  refine rd_mid rfl hw5 l10 fun a6 H6 s6 n6 e6 => ?_
  refine ⟨by show 4 ≤ sizeLine; decide, fun b nb => ?_⟩
  have s16 := s2.trans (s3.trans (s4.trans (s5.trans s6)))
  have s7 := same_upd (o := .lst [V.ref a1, V.ref a2, V.ref a5, V.ref a6]) nb
  have ne : ∀ {a : Addr} {o : HO}, H6 a = some o → a ≠ b := fun {a o} h => ne_of_none h nb
  have x1 := s16 _ _ e1
  have x2 := (s3.trans (s4.trans (s5.trans s6))) _ _ e2
  have x5 := s6 _ _ e5
  have f6 := f.same (s1.trans s16)
  have g7 : G3 K (upd H6 b (.lst [V.ref a1, V.ref a2, V.ref a5, V.ref a6])) p wa b cv c ln [(wordsC c).take 1, ["short", (wordsC c).getD 1 ""], ([Txt.upper ((wordsC c).getD 0 "")] : List Str) ++ (wordsC c).drop 1, (wordsC c).take 1 ++ (["Form"] : List Str) ++ (wordsC c).drop 2] := by
    refine ⟨f6.same s7, ⟨_, upd_same, ?_⟩, ?_, ne f6.ws⟩
    · refine .cons ⟨a1, rfl, ne x1, s7 _ _ x1⟩ (.cons ⟨a2, rfl, ne x2, s7 _ _ x2⟩ (.cons ⟨a5, rfl, ne x5, ?_⟩ (.cons ⟨a6, rfl, ne e6, s7 _ _ e6⟩ .nil)))
      rw [List.map_append]
      exact s7 _ _ x5
    · obtain ⟨ns, en, _⟩ := f6.nu
      exact ne en
  refine rd_app (L := [(wordsC c).take 1, ["short", (wordsC c).getD 1 ""], ([Txt.upper ((wordsC c).getD 0 "")] : List Str) ++ (wordsC c).drop 1, (wordsC c).take 1 ++ (["Form"] : List Str) ++ (wordsC c).drop 2]) (ws := (wordsC c).take 1 ++ (["above"] : List Str) ++ (wordsC c).drop 2) (by show 4 ≤ 20; decide) rfl g7 (fun Q' hq => rd_mid rfl (.inl (.inl g7.g.ws)) l10 hq) fun H8 g8 => ?_
  exact ⟨hM _ _ ⟨s0, p, wa, b, cv, c, ln, rfl, g8⟩, q⟩

end
end K50
namespace K50
open PySem PySem.Spec PyProof.Rows L2 Gm
open C8 (Cal Met Mak pe_c pe_mt pe_mt0 pe_mk)
section
variable {P : Program} {w : World} {K : PySem.W.Frag} {mg : Str → Option Value} {base : Heap}
theorem ch8 (T : Top K mg) (hN : base.NoSeer) (hT : P.given.tree = none) {cdv : Value} {A : Around} {outer : List Env} {s : Shared} {H0 : Hp} {E : XK} (hr : Room 50 (A.deeper (envOfC "law" (defScope s_law) s.heap.objs.size T.a_law cdv)))
    {M : L2.St → Hp → Prop} (next : PSs (XL P w base T cdv A outer s H0 E) ((defBody s_law).drop 17) (tK M)) (hM : ∀ σ H, M6 K (fun c => headB (wordsC c) ++ constB) σ H → M σ H) :
    PSs (XL P w base T cdv A outer s H0 E) ((defBody s_law).drop 8) (tK (M6 K fun c => headB (wordsC c))) := by
  refine pss_wk ((pss_cons (ps_expr (pe_bm PySem.F.plainAttrs_list PySem.F.slot_list_append PySem.F.type_list_append mt_append (pv 5) (pa_cons (pe_lst (pa_cons pe_str (pa_cons pe_str (pa_cons pe_str pa_nil)))) pa_nil)))
      (pss_cons (ps_expr (pe_bm PySem.F.plainAttrs_list PySem.F.slot_list_append PySem.F.type_list_append mt_append (pv 5) (pa_cons (pe_lst (pa_cons pe_str (pa_cons pe_str (pa_cons pe_str pa_nil)))) pa_nil)))
      (pss_cons (ps_expr (pe_bm PySem.F.plainAttrs_list PySem.F.slot_list_append PySem.F.type_list_append mt_append (pv 5) (pa_cons (pe_lst (pa_cons pe_str (pa_cons pe_str (pa_cons pe_str pa_nil)))) pa_nil)))
      (pss_cons (ps_expr (pe_bm PySem.F.plainAttrs_list PySem.F.slot_list_append PySem.F.type_list_append mt_append (pv 5) (pa_cons (pe_lst (pa_cons pe_str (pa_cons pe_str (pa_cons pe_str pa_nil)))) pa_nil)))
      (pss_cons (ps_expr (pe_bm PySem.F.plainAttrs_list PySem.F.slot_list_append PySem.F.type_list_append mt_append (pv 5) (pa_cons (pe_lst (pa_cons pe_str (pa_cons pe_str (pa_cons pe_str (pa_cons pe_str (pa_cons pe_str pa_nil)))))) pa_nil)))
      (pss_cons (ps_expr (pe_bm PySem.F.plainAttrs_list PySem.F.slot_list_append PySem.F.type_list_append mt_append (pv 5) (pa_cons (pe_lst (pa_cons pe_str (pa_cons pe_str (pa_cons pe_str (pa_cons pe_str pa_nil))))) pa_nil)))
      (pss_cons (ps_expr (pe_bm PySem.F.plainAttrs_list PySem.F.slot_list_append PySem.F.type_list_append mt_append (pv 5) (pa_cons (pe_lst (pa_cons pe_str (pa_cons pe_str (pa_cons pe_str (pa_cons pe_str (pa_cons pe_str pa_nil)))))) pa_nil)))
      (pss_cons (ps_expr (pe_bm PySem.F.plainAttrs_list PySem.F.slot_list_append PySem.F.type_list_append mt_append (pv 5) (pa_cons (pe_lst (pa_cons pe_str (pa_cons pe_str (pa_cons pe_str pa_nil)))) pa_nil)))
      (pss_cons (ps_expr (pe_bm PySem.F.plainAttrs_list PySem.F.slot_list_append PySem.F.type_list_append mt_append (pv 5) (pa_cons (pe_lst (pa_cons pe_str (pa_cons pe_str (pa_cons pe_str (pa_cons pe_str pa_nil))))) pa_nil)))
      next)))))))))) ?_
  rintro D σ H ⟨⟨s0, p, wa, b, cv, c, ln, rfl, f⟩, q⟩
  have la : ∀ {L : List (List Str)} {ws : List Str} {k : Nat}, L.length = k → (L ++ [ws]).length = k + 1 := fun {L ws k} h => by rw [List.length_append, h]; rfl
  have l0 : (headB (wordsC c)).length = 5 := rfl
  refine rd_app (ws := ["alike", "a", "form"]) (by rw [l0]; decide) rfl f (fun Q' hq => ⟨by show 3 ≤ sizeLine; decide, fun a na => hq a _ (same_upd na) na upd_same⟩) fun H1 g1 => ?_
  have l1 := la (ws := ["alike", "a", "form"]) l0
  refine rd_app (ws := ["short", "a", "01"]) (by rw [l1]; decide) rfl g1 (fun Q' hq => ⟨by show 3 ≤ sizeLine; decide, fun a na => hq a _ (same_upd na) na upd_same⟩) fun H2 g2 => ?_
  have l2 := la (ws := ["short", "a", "01"]) l1
  refine rd_app (ws := ["short", "a", "-1"]) (by rw [l2]; decide) rfl g2 (fun Q' hq => ⟨by show 3 ≤ sizeLine; decide, fun a na => hq a _ (same_upd na) na upd_same⟩) fun H3 g3 => ?_
  have l3 := la (ws := ["short", "a", "-1"]) l2
  refine rd_app (ws := ["below", "a", "0"]) (by rw [l3]; decide) rfl g3 (fun Q' hq => ⟨by show 3 ≤ sizeLine; decide, fun a na => hq a _ (same_upd na) na upd_same⟩) fun H4 g4 => ?_
  have l4 := la (ws := ["below", "a", "0"]) l3
  refine rd_app (ws := ["nearest", "a", "1", "/", "0"]) (by rw [l4]; decide) rfl g4 (fun Q' hq => ⟨by show 5 ≤ sizeLine; decide, fun a na => hq a _ (same_upd na) na upd_same⟩) fun H5 g5 => ?_
  have l5 := la (ws := ["nearest", "a", "1", "/", "0"]) l4
  refine rd_app (ws := ["nearest", "a", "/", "2"]) (by rw [l5]; decide) rfl g5 (fun Q' hq => ⟨by show 4 ≤ sizeLine; decide, fun a na => hq a _ (same_upd na) na upd_same⟩) fun H6 g6 => ?_
  have l6 := la (ws := ["nearest", "a", "/", "2"]) l5
  refine rd_app (ws := ["nearest", "a", "-0", "/", "2"]) (by rw [l6]; decide) rfl g6 (fun Q' hq => ⟨by show 5 ≤ sizeLine; decide, fun a na => hq a _ (same_upd na) na upd_same⟩) fun H7 g7 => ?_
  have l7 := la (ws := ["nearest", "a", "-0", "/", "2"]) l6
  refine rd_app (ws := ["short", "a", "12345"]) (by rw [l7]; decide) rfl g7 (fun Q' hq => ⟨by show 3 ≤ sizeLine; decide, fun a na => hq a _ (same_upd na) na upd_same⟩) fun H8 g8 => ?_
  have l8 := la (ws := ["short", "a", "12345"]) l7
  refine rd_app (ws := ["let", "a", "=", "1 2; 2 1"]) (by rw [l8]; decide) rfl g8 (fun Q' hq => ⟨by show 4 ≤ sizeLine; decide, fun a na => hq a _ (same_upd na) na upd_same⟩) fun H9 g9 => ?_
  refine ⟨hM _ _ ⟨s0, p, wa, b, cv, c, ln, rfl, ?_⟩, q⟩
  exact g9
def M7 (K : PySem.W.Frag) : L2.St → Hp → Prop := fun σ H => ∃ (s0 s1 s2 s5 s6 : Option V) (wa : Addr) (c : LC) (ln : Str),
  σ = [s0, s1, s2, some (.ref wa), some (.str ln), s5, s6, none, none] ∧ G1 H wa c ln
theorem ch17 (T : Top K mg) (hN : base.NoSeer) (hT : P.given.tree = none) {cdv : Value} {A : Around} {outer : List Env} {s : Shared} {H0 : Hp} {E : XK} (hr : Room 50 (A.deeper (envOfC "law" (defScope s_law) s.heap.objs.size T.a_law cdv)))
    {M : L2.St → Hp → Prop} (next : PSs (XL P w base T cdv A outer s H0 E) ((defBody s_law).drop 18) (tK M)) (hM : ∀ σ H, M6 K badsC σ H → M σ H) :
    PSs (XL P w base T cdv A outer s H0 E) ((defBody s_law).drop 17) (tK (M6 K fun c => headB (wordsC c) ++ constB)) := by
  refine pss_wk ((pss_cons (ps_if (PW.pt (pw_and (pt_cmpR op_ne (pe_ix (ixT K rfl) (pv 2) pe_int (fun _ _ => rfl)) pe_str (nomark _)) (pw_and1 (pt_cmpR op_ne (pe_ix (ixT K rfl) (pv 2) pe_int (fun _ _ => rfl)) pe_str (nomark _)))))
      (pss_one (ps_expr (pe_bm PySem.F.plainAttrs_list PySem.F.slot_list_append PySem.F.type_list_append mt_append (pv 5) (pa_cons (pe_op op_cat (pv 3) (pe_lst (pa_cons pe_str pa_nil))) pa_nil))))
      pss_nil)
      next)) ?_
  rintro D σ H ⟨⟨s0, p, wa, b, cv, c, ln, rfl, f⟩, q⟩
  obtain ⟨t, wd, vs, rfl, ht, n1, n2⟩ := f.g.hd
  have bd : badsC c = (headB (wordsC c) ++ constB) ++ (if isLN c = true then [] else [wordsC c ++ (["b"] : List Str)]) := rfl
  have l10 := (words_w f.g.gd).2.1
  have hz : 100000 ≤ sizeLine := by decide
  refine ⟨_, rfl, t, _, _, _, rfl, rfl, ht, at_of (j := 0) rfl rfl, rfl, _, rfl, ?_⟩
  cases e : isLN c with
  | false =>
    obtain ⟨m1, m2⟩ := n1 e
    rw [show (!decide (V.str wd = V.str ("let" : Str))) = true by rw [decide_eq_false fun z => m1 (V.str.inj z)]; rfl]
    refine iteT ?_
    refine ⟨_, rfl, t, _, _, _, rfl, rfl, ht, at_of (j := 0) rfl rfl, rfl, _, rfl, ?_⟩
    rw [show (!decide (V.str wd = V.str ("nearest" : Str))) = true by rw [decide_eq_false fun z => m2 (V.str.inj z)]; rfl]
    refine iteT ?_
    refine rd_app (ws := wordsC c ++ (["b"] : List Str)) (by show 14 ≤ 20; decide) rfl f (fun Q' hq => ?_) fun H1 g1 => ?_
    · refine ⟨_, rfl, by show 1 ≤ sizeLine; decide, fun a1 na1 => ?_⟩
      have s1 := same_upd (o := .lst [V.str "b"]) na1
      have e1 : (upd H a1 (.lst [V.str "b"])) a1 = some (.lst [V.str "b"]) := upd_same
      generalize upd H a1 (.lst [V.str "b"]) = H1 at s1 e1 ⊢
      refine ⟨wa, a1, _, _, rfl, rfl, s1 _ _ f.g.ws, e1, by rw [List.length_map]; show (wordsC c).length + 1 ≤ sizeLine; omega, fun a2 na2 => ?_⟩
      refine hq a2 _ (s1.trans (same_upd na2)) (fresh_of s1 na2) ?_
      rw [upd_same, List.map_append]
      rfl
    · refine ⟨hM _ _ ⟨s0, p, wa, b, .ref t, c, ln, rfl, ?_⟩, q⟩
      rw [bd, e, if_neg (by decide)]
      exact g1
  | true =>
    have fin : (tK M) D [s0, some (V.ref p), some (V.ref t), some (V.ref wa), some (V.str ln), some (V.ref b), none, none, none] H := by
      refine ⟨hM _ _ ⟨s0, p, wa, b, .ref t, c, ln, rfl, ?_⟩, q⟩
      rw [bd, e, if_pos rfl, List.append_nil]
      exact f
    rcases n2 e with h | h
    · rw [show (!decide (V.str wd = V.str ("let" : Str))) = false by rw [decide_eq_true (congrArg V.str h)]; rfl]
      exact iteF (iteF fin)
    · rw [show (!decide (V.str wd = V.str ("let" : Str))) = true by rw [decide_eq_false fun z => absurd (h.symm.trans (V.str.inj z)) (by decide)]; rfl]
      refine iteT ?_
      refine ⟨_, rfl, t, _, _, _, rfl, rfl, ht, at_of (j := 0) rfl rfl, rfl, _, rfl, ?_⟩
      rw [show (!decide (V.str wd = V.str ("nearest" : Str))) = false by rw [decide_eq_true (congrArg V.str h)]; rfl]
      exact iteF fin
theorem bads_sz {c : LC} (g : GoodC c) : ∀ ws ∈ badsC c, ws ≠ [] ∧ ws.length ≤ 12 ∧ ∀ w ∈ ws, w.length ≤ 60 := by
  obtain ⟨w0, w1, r, hw, hr8⟩ := words_two g
  have W := words_w g
  have wl := W.2.2
  have up : (Txt.upper w0).length ≤ 60 := by
    cases c with
    | cmd c =>
      obtain ⟨w, rest, W, F, _⟩ := good_W g
      have e := W.eq
      rw [hw] at e
      injection e with e _
      have := F.lu
      rw [e]
      omega
    | lat n z =>
      have e : w0 = ("let" : Str) := by
        have hw : (["let", n, "=", letT z] : List Str) = w0 :: w1 :: r := hw
        injection hw with e _
        exact e.symm
      rw [e]
      decide +kernel
  have m0 : w0.length ≤ 60 := (wl w0 (by rw [hw]; exact List.mem_cons_self ..)).2
  have m1 : w1.length ≤ 60 := (wl w1 (by rw [hw]; exact List.mem_cons_of_mem _ (List.mem_cons_self ..))).2
  have mr : ∀ w ∈ r, w.length ≤ 60 := fun w h => (wl w (by rw [hw]; exact List.mem_cons_of_mem _ (List.mem_cons_of_mem _ h))).2
  have cons : ∀ {x : Str} {l : List Str}, x.length ≤ 60 → (∀ w ∈ l, w.length ≤ 60) → ∀ w ∈ x :: l, w.length ≤ 60 := fun {x l} hx hl w hw => by
    rcases List.mem_cons.mp hw with rfl | hw
    · exact hx
    · exact hl w hw
  have nil : ∀ w ∈ ([] : List Str), w.length ≤ 60 := fun w h => by cases h
  intro ws h
  unfold badsC at h
  rw [hw] at h
  rcases List.mem_append.mp h with h | h
  · rcases List.mem_append.mp h with h | h
    · have h : ws ∈ ([[w0], ["short", w1], Txt.upper w0 :: w1 :: r, w0 :: "Form" :: r, w0 :: "above" :: r] : List (List Str)) := h
      simp only [List.mem_cons, List.not_mem_nil, or_false] at h
      rcases h with rfl | rfl | rfl | rfl | rfl
      · exact ⟨by simp, by show 1 ≤ 12; decide, cons m0 nil⟩
      · exact ⟨by simp, by show 2 ≤ 12; decide, cons (by decide) (cons m1 nil)⟩
      · exact ⟨by simp, by simp; omega, cons up (cons m1 mr)⟩
      · exact ⟨by simp, by simp; omega, cons m0 (cons (by decide) mr)⟩
      · exact ⟨by simp, by simp; omega, cons m0 (cons (by decide) mr)⟩
    · have key : constB.all (fun ws => decide (ws ≠ []) && (decide (ws.length ≤ 12) && ws.all fun w => decide (w.length ≤ 60))) = true := by decide +kernel
      have := List.all_eq_true.mp key ws h
      simp only [Bool.and_eq_true, decide_eq_true_eq, List.all_eq_true] at this
      exact this
  · split at h
    · cases h
    · rw [List.mem_singleton.mp h]
      refine ⟨by simp, by simp; omega, cons m0 (cons m1 fun w hm => ?_)⟩
      rcases List.mem_append.mp hm with hm | hm
      · exact mr w hm
      · rw [List.mem_singleton.mp hm]; decide
theorem ch18 (T : Top K mg) (hN : base.NoSeer) (hT : P.given.tree = none) {cdv : Value} {A : Around} {outer : List Env} {s : Shared} {H0 : Hp} {E : XK} (hr : Room 50 (A.deeper (envOfC "law" (defScope s_law) s.heap.objs.size T.a_law cdv)))
    {M : L2.St → Hp → Prop} (next : PSs (XL P w base T cdv A outer s H0 E) ((defBody s_law).drop 20) (tK M)) (hM : ∀ σ H, M7 K σ H → M σ H) :
    PSs (XL P w base T cdv A outer s H0 E) ((defBody s_law).drop 18) (tK (M6 K badsC)) := by
  refine pss_wk ((pss_cons (ps_set (i := 6) sc_law.nd rfl (by first | exact .inl rfl | exact .inr rfl) (pe_ix (ixL K rfl) (pv 5) (pe_c (cal_law_next T hN hT) hr (by decide) (by rfl) (pa_cons (pv 1) (pa_cons (pe_callB (lenS K rfl) (by rfl) T.z_len (by decide +kernel) (pa_cons (pv 5) pa_nil)) pa_nil))) (fun _ _ => rfl)))
      (pss_cons (ps_if (pt_not (pt_val (pe_c (cal_law_refuses T hN hT) hr (by decide) (by rfl) (pa_cons (pe_joinK K rfl pe_str (pv 6)) pa_nil))))
      (pss_one (ps_ret pe_bl))
      pss_nil)
      next))) ?_
  rintro D σ H ⟨⟨s0, p, wa, b, cv, c, ln, rfl, f⟩, q⟩
  obtain ⟨vs, eb, pr⟩ := f.bl
  have len := Paired.length pr
  have l15 : (badsC c).length ≤ 15 ∧ 0 < (badsC c).length := by
    unfold badsC
    rw [List.length_append]
    have : (headB (wordsC c) ++ constB).length = 14 := rfl
    split
    · exact ⟨by rw [this]; decide, by rw [this]; decide⟩
    · exact ⟨by rw [this]; show 14 + 1 ≤ 15; decide, by rw [this]; show 0 < 14 + 1; decide⟩
  refine ⟨_, rfl, _, rfl, _, rfl, b, _, rfl, .inl (.inl (.inl eb)), p, _, rfl, f.g.nu, by omega, fun r H1 hr1 o1 nu1 => ?_⟩
  have lt : r < vs.length := hr1
  obtain ⟨v, ev⟩ : ∃ v, vs[r]? = some v := ⟨_, List.getElem?_eq_getElem lt⟩
  obtain ⟨ws, ews, qa, rfl, nqb, hq⟩ := Paired.getR pr ev
  have hmem := List.mem_of_getElem? ews
  obtain ⟨wne, wl, wsz⟩ := bads_sz f.g.gd ws hmem
  have qp : qa ≠ p := fun z => by
    obtain ⟨ns, en, _⟩ := f.g.nu
    rw [z, en] at hq
    injection hq with hq
    injection hq with hq
    cases ws with
    | nil => exact wne rfl
    | cons w r =>
      cases ns with
      | nil => cases hq
      | cons n r => injection hq with hq _; cases hq
  have hq1 := o1 _ _ qp hq
  have eb1 := o1 _ _ (Ne.symm f.bp) eb
  refine ⟨b, _, _, _, rfl, rfl, .inl (.inl eb1), at_of (j := r) rfl ev, ?_⟩
  have sm := sum_len wsz
  refine ⟨⟨_, rfl⟩, _, rfl, _, qa, ws, rfl, rfl, .inl (.inl hq1), by show (ws.map (·.length)).sum + ws.length * 1 ≤ 16777216; omega, ?_⟩
  refine ⟨_, rfl, fun Q1 E1 en => bads_ref f.g.gd ws hmem _ Q1 E1 en, fun H2 s2 => ⟨_, rfl, ?_⟩⟩
  refine iteF ?_
  exact ⟨hM _ _ ⟨s0, _, _, _, _, wa, c, ln, rfl, f.g.gd, s2 _ _ (o1 _ _ f.g.wp f.g.ws), f.g.lw, f.g.ll⟩, q⟩

end
end K50
namespace K50
open PySem PySem.Spec PyProof.Rows L2 Gm
open C8 (Cal Met Mak pe_c pe_mt pe_mt0 pe_mk)
section
variable {P : Program} {w : World} {K : PySem.W.Frag} {mg : Str → Option Value} {base : Heap}
theorem mul_ok9 : MulOk ("a" : Str) 9 := ⟨by decide, fun _ _ => by decide, fun _ _ => by decide +kernel⟩
theorem mul_ok2001 : MulOk ("a" : Str) 2001 := ⟨by decide, fun _ _ => by decide, fun _ _ => by decide +kernel⟩
def oddL (w0 : Str) : List V := [.non, .int 5, .str (("form " : Str) ++ Txt.mul ("a" : Str) 9), .str "form a\n", .str (Txt.mul ("a" : Str) 2001), .str w0]
def M8 (K : PySem.W.Frag) : L2.St → Hp → Prop := fun σ H => ∃ (s0 s1 s2 s5 s6 s7 : Option V) (wa : Addr) (c : LC) (ln : Str),
  σ = [s0, s1, s2, some (.ref wa), some (.str ln), s5, s6, s7, none] ∧ G1 H wa c ln
theorem G1.same {H H' : Hp} {wa : Addr} {c : LC} {ln : Str} (s : Same H H') (g : G1 H wa c ln) : G1 H' wa c ln := ⟨g.gd, s _ _ g.ws, g.lw, g.ll⟩
theorem ch20 (T : Top K mg) (hN : base.NoSeer) (hT : P.given.tree = none) {cdv : Value} {A : Around} {outer : List Env} {s : Shared} {H0 : Hp} {E : XK} (hr : Room 50 (A.deeper (envOfC "law" (defScope s_law) s.heap.objs.size T.a_law cdv)))
    {M : L2.St → Hp → Prop} (next : PSs (XL P w base T cdv A outer s H0 E) ((defBody s_law).drop 21) (tK M)) (hM : ∀ σ H, M8 K σ H → M σ H) :
    PSs (XL P w base T cdv A outer s H0 E) ((defBody s_law).drop 20) (tK (M7 K)) := by
  refine pss_wk ((pss_cons (ps_for PassesOwn.never rfl (piS K rfl (pe_lst (pa_cons pe_non (pa_cons pe_int (pa_cons (pe_op op_add_str pe_str (pe_op op_mul_str pe_str pe_int)) (pa_cons pe_str (pa_cons (pe_op op_mul_str pe_str pe_int) (pa_cons (pe_ix (ixL K rfl) (pv 3) pe_int (fun _ _ => rfl)) pa_nil)))))))) (pg_name (i := 7) sc_law.nd rfl (by first | exact .inl rfl | exact .inr rfl))
      (pss_one (ps_if (pt_not (pt_val (pe_c (cal_law_refuses T hN hT) hr (by decide) (by rfl) (pa_cons (pv 7) pa_nil))))
      (pss_one (ps_ret pe_bl))
      pss_nil)))
      next)) ?_
  rintro D σ H ⟨⟨s0, s1, s2, s5, s6, wa, c, ln, rfl, f⟩, q⟩
  obtain ⟨w0, w1, r, hw, hr8⟩ := words_two f.gd
  have hws := f.ws
  have lw := (words_w f.gd).2.1
  have hz : 100000 ≤ sizeLine := by decide
  have hix : ((wordsC c).map V.str)[0]? = some (.str ((wordsC c).getD 0 "")) := by rw [hw]; rfl
  refine ⟨_, _, rfl, rfl, mul_ok9, _, _, rfl, rfl, by decide +kernel, _, _, rfl, rfl, mul_ok2001, _, rfl, wa, _, _, _, rfl, rfl, .inl (.inl hws), at_of (j := 0) rfl hix, by show 6 ≤ sizeLine; decide, fun a na => ?_⟩
  have sa := same_upd (o := .lst (oddL ((wordsC c).getD 0 ""))) na
  have ea : (upd H a (.lst (oddL ((wordsC c).getD 0 "")))) a = some (.lst (oddL ((wordsC c).getD 0 ""))) := upd_same
  have hall : ∀ v ∈ oddL ((wordsC c).getD 0 ""), RefA K T.C_Grid T.C_Lattice T.X_Malformed T.X_Refused T.X_NoText v := fun v hv => by
    have hv : v ∈ ([.non, .int 5, .str (("form " : Str) ++ Txt.mul ("a" : Str) 9), .str "form a\n", .str (Txt.mul ("a" : Str) 2001)] : List V) ++ [.str ((wordsC c).getD 0 "")] := hv
    rcases List.mem_append.mp hv with hv | hv
    · exact odd_values (fun _ => .inl rfl) (fun _ => .inr (.inl ⟨5, rfl⟩)) v hv
    · rw [List.mem_singleton.mp hv]
      exact first_ref f.gd
  have f1 := f.same sa
  refine ⟨a, oddL ((wordsC c).getD 0 ""), rfl, .inl (.inl (.inl ea)), ?_⟩
  intro J G W hG
  refine for_it W (fun i σ H2 => ∃ last : Option V, σ = [s0, s1, s2, some (.ref wa), some (.str ln), s5, s6, last, none] ∧ Same (upd H a (.lst (oddL ((wordsC c).getD 0 "")))) H2) ⟨none, rfl, fun _ _ e => e⟩ (fun i σ H2 _ ⟨_, _, s2'⟩ => hG H2 fun b hb o e => s2' _ _ e) ?_ ?_
  · rintro i v σ H2 H2' hi ⟨last, rfl, s2'⟩ ⟨rfl, ex⟩
    refine ⟨_, rfl, _, rfl, fun Q1 E1 en => hall v (List.mem_of_getElem? ex) _ Q1 E1 en, fun H3 s3 => ⟨_, rfl, ?_⟩⟩
    refine iteF ?_
    exact ⟨some v, rfl, s2'.trans s3⟩
  · rintro σ H2 ⟨last, rfl, s2'⟩
    exact ⟨hM _ _ ⟨s0, s1, s2, s5, s6, last, wa, c, ln, rfl, f1.same s2'⟩, q⟩
theorem hash_start {x : Str} : Txt.startswith (("#" : Str) ++ x) ("#" : Str) = true := by
  unfold Txt.startswith
  rw [sub0 (a := 35) rfl, TL.tl_append]
  have l : (("#" : Str) ++ x).length = 1 + x.length := by rw [TL.len_tl, TL.tl_append, List.length_append, ← TL.len_tl x]; rfl
  rw [l]
  have e : decide (0 + ("#" : Str).length ≤ 1 + x.length) = true := decide_eq_true (by show 0 + 1 ≤ 1 + x.length; omega)
  rw [e]
  rfl
theorem words_ok {c : LC} (g : GoodC c) : ∀ w ∈ wordsC c, ∀ ch ∈ TL.tl w, okS ch = true := by
  cases c with
  | cmd c =>
    obtain ⟨w0, rest, W, F, _⟩ := good_W g
    rw [W.eq]
    intro w hw
    rcases List.mem_cons.mp hw with rfl | hw
    · exact (plain_W W.p0).2
    · exact (plain_W (W.pr w hw)).2
  | lat n z =>
    obtain ⟨hn, z1, z50⟩ : n ∈ nameL ∧ 1 ≤ z ∧ z ≤ 50 := by
      cases g with
      | lat a b c => exact ⟨a, b, c⟩
    obtain ⟨n1, n2, n3⟩ := name_plain n hn
    have L := let_W z1 z50
    intro w hw
    have hw : w ∈ (["let", n, "=", letT z] : List Str) := hw
    simp only [List.mem_cons, List.not_mem_nil, or_false] at hw
    rcases hw with rfl | rfl | rfl | rfl
    · exact (plain_W (w := "let") (by decide +kernel)).2
    · exact (plain_W n1).2
    · exact (plain_W (w := "=") (by decide +kernel)).2
    · exact L.ok
theorem ch21 (T : Top K mg) (hN : base.NoSeer) (hT : P.given.tree = none) {cdv : Value} {A : Around} {outer : List Env} {s : Shared} {H0 : Hp} {E : XK} (hr : Room 50 (A.deeper (envOfC "law" (defScope s_law) s.heap.objs.size T.a_law cdv))) :
    PSs (XL P w base T cdv A outer s H0 E) ((defBody s_law).drop 21) (tK (M8 K)) := by
  refine pss_wk ((pss_cons (ps_if (PW.pt (pw_or (pt_cmpR (op_neC T hN hT rfl rfl rfl rfl rfl (hr.mono (by decide))) (pe_call (E := L2.E0) (ok_read_line T hN hT) (hr.mono (by decide)) (by rfl) T.g_read_line T.F_read_line.kp T.b_read_line .nil (passes_call takes0 (fun _ _ _ _ h => h)) (pa_cons pe_str pa_nil)) (pe_tup (pa_cons pe_str pa_nil)) (nomark _)) (pw_or (pt_cmpR (op_neC T hN hT rfl rfl rfl rfl rfl (hr.mono (by decide))) (pe_call (E := L2.E0) (ok_read_line T hN hT) (hr.mono (by decide)) (by rfl) T.g_read_line T.F_read_line.kp T.b_read_line .nil (passes_call takes0 (fun _ _ _ _ h => h)) (pa_cons (pe_op op_add_str pe_str (pv 4)) pa_nil)) (pe_tup (pa_cons pe_str pa_nil)) (nomark _)) (pw_or1 (pt_cmpR (op_neC T hN hT rfl rfl rfl rfl rfl (hr.mono (by decide))) (pe_call (E := L2.E0) (ok_read_line T hN hT) (hr.mono (by decide)) (by rfl) T.g_read_line T.F_read_line.kp T.b_read_line .nil (passes_call takes0 (fun _ _ _ _ h => h)) (pa_cons pe_str pa_nil)) (pe_tup (pa_cons pe_str pa_nil)) (nomark _))))))
      (pss_one (ps_ret pe_bl))
      pss_nil)
      (pss_cons (ps_set (i := 8) sc_law.nd rfl (by first | exact .inl rfl | exact .inr rfl) (pe_and (pe_c (cal_is_name T hN hT) hr (by decide) (by rfl) (pa_cons (pe_ix (ixL K rfl) (pv 3) pe_int (fun _ _ => rfl)) pa_nil)) (pe_and (pe_not (pe_c (cal_is_name T hN hT) hr (by decide) (by rfl) (pa_cons pe_str pa_nil))) (pe_one (pe_not (pe_c (cal_is_name T hN hT) hr (by decide) (by rfl) (pa_cons pe_str pa_nil)))))))
      (pss_one (ps_ret (pe_and (pv 8) (pe_and (pe_not (pe_c (cal_is_name T hN hT) hr (by decide) (by rfl) (pa_cons pe_str pa_nil))) (pe_and (pe_not (pe_c (cal_is_name T hN hT) hr (by decide) (by rfl) (pa_cons pe_non pa_nil))) (pe_and (pe_not (pe_c (cal_is_name T hN hT) hr (by decide) (by rfl) (pa_cons pe_str pa_nil))) (pe_one (pe_not (pe_c (cal_is_name T hN hT) hr (by decide) (by rfl) (pa_cons pe_str pa_nil))))))))))))) ?_
  rintro D σ H ⟨⟨s0, s1, s2, s5, s6, s7, wa, c, ln, rfl, f⟩, q⟩
  obtain ⟨w0, ps, hw, hs, hl⟩ := f.lw
  have ll := f.ll
  have hz : 100000 ≤ sizeLine := by decide
  have la : ∀ (x y : Str), (x ++ y).length = x.length + y.length := fun x y => by rw [TL.len_tl, TL.tl_append, List.length_append, ← TL.len_tl, ← TL.len_tl]
  have hash_ok : isLineB (("#" : Str) ++ ln) = true := by
    have wo := words_ok f.gd
    have lk : ∀ c ∈ TL.tl ln, okS c = true := fun ch hc => by
      rw [hl] at hc
      rcases List.mem_append.mp hc with hc | hc
      · exact wo w0 (by rw [hw]; exact List.mem_cons_self ..) ch hc
      · exact glue_ok (fun q hq => ⟨hs q hq, wo q.2 (by rw [hw]; exact List.mem_cons_of_mem _ (List.mem_map.mpr ⟨q, hq, rfl⟩))⟩) ch hc
    refine List.all_eq_true.mpr fun ch hc => ?_
    rw [TL.tl_append] at hc
    rcases List.mem_append.mp hc with hc | hc
    · rw [List.mem_singleton.mp (show ch ∈ [35] from hc)]
      decide
    · have := lk ch hc
      unfold okS at this
      rw [Bool.and_eq_true] at this
      exact this.1
  have emp : ∀ {H1 : Hp} {p t : Addr}, SqT K H1 p [.str "empty"] → SqT K H1 t [.str "empty"] → DTup K (DC3 K T.C_Grid T.C_Lattice) (.ref p) (.ref t) H1 := fun {H1 p t} h1 h2 => ⟨p, t, _, _, rfl, rfl, h1, h2, .cons (.inl (.inl flat_str)) .nil⟩
  refine ⟨.str "", rfl, .inr ⟨"", rfl, by decide, by decide +kernel, .inl ⟨.inl (by decide +kernel), fun p1 H1 s1' e1 => ?_⟩⟩⟩
  refine ⟨by show 1 ≤ sizeLine; decide, fun t1 nt1 => ⟨emp (Same.seqT (same_upd nt1) e1) (.inl (.inl upd_same)), fun H2 x2 => ⟨_, rfl, ?_⟩⟩⟩
  refine iteF ?_
  refine ⟨_, rfl, _, _, rfl, rfl, by show 1 + ln.length ≤ sizeLine; omega, ?_⟩
  refine ⟨_, rfl, .inr ⟨_, rfl, by rw [la]; show 1 + ln.length ≤ 900; omega, hash_ok, .inl ⟨.inr hash_start, fun p3 H3 s3 e3 => ?_⟩⟩⟩
  refine ⟨by show 1 ≤ sizeLine; decide, fun t3 nt3 => ⟨emp (Same.seqT (same_upd nt3) e3) (.inl (.inl upd_same)), fun H4 x4 => ⟨_, rfl, ?_⟩⟩⟩
  refine iteF ?_
  refine ⟨.str "   ", rfl, .inr ⟨"   ", rfl, by decide, by decide +kernel, .inl ⟨.inl (by decide +kernel), fun p5 H5 s5' e5 => ?_⟩⟩⟩
  refine ⟨by show 1 ≤ sizeLine; decide, fun t5 nt5 => ⟨emp (Same.seqT (same_upd nt5) e5) (.inl (.inl upd_same)), fun H6 x6 => ⟨_, rfl, ?_⟩⟩⟩
  refine iteF ?_
  have f6 : G1 H6 wa c ln := f.same (s1'.trans ((same_upd nt1).trans (Same.trans (fun b o x => x2 b o x) (s3.trans ((same_upd nt3).trans (Same.trans (fun b o x => x4 b o x) (s5'.trans ((same_upd nt5).trans fun b o x => x6 b o x))))))))
  have hws := f6.ws
  obtain ⟨w0', w1, r, hw', hr8⟩ := words_two f.gd
  have hix : ((wordsC c).map V.str)[1]? = some (.str ((wordsC c).getD 1 "")) := by rw [hw']; rfl
  have nm : isNameB ((wordsC c).getD 1 "") = true ∧ ((wordsC c).getD 1 "").length ≤ 60 := by
    refine ⟨?_, ?_⟩
    · have gd := f.gd
      cases c with
      | cmd c =>
        obtain ⟨w, rest, W, F, hn⟩ := good_W gd
        rw [W.eq]
        exact hn
      | lat n z =>
        cases gd with
        | lat a b c => exact (name_plain _ a).2.1
    · have := (words_w f.gd).2.2 w1 (by rw [hw']; exact List.mem_cons_of_mem _ (List.mem_cons_self ..))
      rw [hw']
      exact this.2
  refine ⟨_, rfl, wa, _, _, _, rfl, rfl, .inl (.inl hws), at_of (j := 1) rfl hix, _, rfl, .inr ⟨_, rfl, by have := nm.2; omega, ?_⟩⟩
  refine ⟨_, rfl, ?_⟩
  rw [nm.1]
  refine iteT ?_
  refine ⟨_, rfl, .inr ⟨"let", rfl, by decide, _, rfl, _, rfl, ?_⟩⟩
  rw [show isNameB ("let" : Str) = false by decide +kernel]
  refine iteT ?_
  refine ⟨_, rfl, .inr ⟨"parts", rfl, by decide, _, rfl, ?_⟩⟩
  rw [show isNameB ("parts" : Str) = false by decide +kernel]
  refine ⟨_, rfl, _, rfl, ?_⟩
  refine iteT ?_
  refine ⟨_, rfl, .inr ⟨"", rfl, by decide, _, rfl, _, rfl, ?_⟩⟩
  rw [show isNameB ("" : Str) = false by decide +kernel]
  refine iteT ?_
  refine ⟨_, rfl, .inl ⟨.inl rfl, _, rfl, _, rfl, ?_⟩⟩
  refine iteT ?_
  refine ⟨_, rfl, .inr ⟨"abcdefghi", rfl, by decide, _, rfl, _, rfl, ?_⟩⟩
  rw [show isNameB ("abcdefghi" : Str) = false by decide +kernel]
  refine iteT ?_
  refine ⟨_, rfl, .inr ⟨"a b", rfl, by decide, _, rfl, ?_⟩⟩
  rw [show isNameB ("a b" : Str) = false by decide +kernel]
  exact q _
theorem ok_law (T : Top K mg) (hN : base.NoSeer) (hT : P.given.tree = none) : FnOk P w K mg base CX0 51 T.a_law T.d_law ["script"] (sp_law K) := by
  refine T.F_law.ok sc_law (fun vs H Q E h => ?_) (fun cdv A outer s H vs Q E hr h => ?_)
  · obtain ⟨a, ns, rfl, _⟩ := h
    rfl
  · obtain ⟨a0, ns, rfl, hsc, hl, hb, q⟩ := h
    refine ⟨_, ((pss_cons (ps_set (i := 1) sc_law.nd rfl (by first | exact .inl rfl | exact .inr rfl) (pe_c (cal_law_numbers T hN hT) hr (by decide) (by rfl) (pa_cons (pv 0) pa_nil)))
      (pss_cons (ps_set (i := 2) sc_law.nd rfl (by first | exact .inl rfl | exact .inr rfl) (pe_c (cal_law_command T hN hT) hr (by decide) (by rfl) (pa_cons (pv 1) pa_nil)))
      (pss_cons (ps_set (i := 3) sc_law.nd rfl (by first | exact .inl rfl | exact .inr rfl) (pe_c (cal_law_words T hN hT) hr (by decide) (by rfl) (pa_cons (pv 2) pa_nil)))
      (pss_cons (ps_set (i := 4) sc_law.nd rfl (by first | exact .inl rfl | exact .inr rfl) (pe_c (cal_law_line T hN hT) hr (by decide) (by rfl) (pa_cons (pv 3) (pa_cons (pv 1) pa_nil))))
      (ch4 T hN hT hr (ch6 T hN hT hr (ch8 T hN hT hr (ch17 T hN hT hr (ch18 T hN hT hr (ch20 T hN hT hr (ch21 T hN hT hr) (fun _ _ h => h)) (fun _ _ h => h)) (fun _ _ h => h)) (fun _ _ h => h)) (fun _ _ h => h)) (fun _ _ h => h))))))), ?_⟩
    refine ⟨_, rfl, a0, ns, rfl, hsc, hl, fun p H1 s1 np nu1 => ?_⟩
    refine ⟨_, rfl, p, rfl, nu1, fun cv H2 c gd hc o2 nu2 => ?_⟩
    refine ⟨_, rfl, cv, c, rfl, gd, hc, fun wa H3 s3 e3 nwa => ?_⟩
    have nu3 := num_same s3 nu2
    have wp : wa ≠ p := num_ne nu2 nwa
    have W := words_w gd
    refine ⟨_, rfl, _, rfl, wa, p, wordsC c, rfl, e3, wp, nu3, W.1, W.2.1, W.2.2, fun ln w0 ps H4 hw hs ht hll o4 nu4 => ?_⟩
    exact ⟨⟨some (.ref a0), p, wa, cv, c, ln, rfl, nu4, gd, lc_off nu3 o4 (lc_same s3 hc), o4 _ _ wp e3, wp, ⟨w0, ps, hw, hs, ht⟩, hll⟩, q⟩

end
end K50
namespace K50
open PySem PySem.Spec PyProof.Rows L2 Gm
theorem all_mk {l : PySem.W.OpenLaw} {w : World} {K : PySem.W.Frag} {h : Heap} {mg : Str → Option Value} {fa C_Grid C_Lattice X_Malformed X_NoText X_Refused f1 f2 f3 f4 f5 f6 f7 f8 f9 f10 f11 f12 f13 f14 f15 f16 f17 f18 f19 f20 f21 f22 f23 f24 f25 f26 f27 f28 f29 f30 f31 f32 f33 f34 f35 : Addr} (X : K.In h) (G : h.Ns mainGlobals mg) (hfa : mg "law" = some (.ref fa)) (hT : l.prog.given.tree = none)
    {od1 an1 od2 an2 od3 an3 od4 an4 od5 an5 od6 an6 od7 an7 od8 an8 od9 an9 od10 an10 od11 an11 od12 an12 od13 an13 od14 an14 od15 an15 od16 an16 od17 an17 od18 an18 od19 an19 od20 an20 od21 an21 od22 an22 od23 an23 od24 an24 od25 an25 od26 an26 od27 an27 od28 an28 od29 an29 od30 an30 od31 an31 od32 an32 od33 an33 od34 an34 od35 an35 : Option Addr} {sl1 sl2 sl3 sl4 sl5 sl6 sl7 sl8 sl9 sl10 sl11 sl12 sl13 sl14 sl15 sl16 sl17 sl18 sl19 sl20 sl21 sl22 sl23 sl24 sl25 sl26 sl27 sl28 sl29 sl30 sl31 sl32 sl33 sl34 sl35 : Array (Option Value)} {oc1 kV1 dc1 pm1 cd1 ct1 oc2 kV2 dc2 pm2 cd2 ct2 oc3 kV3 dc3 pm3 cd3 ct3 oc4 kV4 dc4 pm4 cd4 ct4 oc5 kV5 dc5 pm5 cd5 ct5 oc6 kV6 dc6 pm6 cd6 ct6 oc7 kV7 dc7 pm7 cd7 ct7 oc8 kV8 dc8 pm8 cd8 ct8 oc9 kV9 dc9 pm9 cd9 ct9 oc10 kV10 dc10 pm10 cd10 ct10 oc11 kV11 dc11 pm11 cd11 ct11 oc12 kV12 dc12 pm12 cd12 ct12 oc13 kV13 dc13 pm13 cd13 ct13 oc14 kV14 dc14 pm14 cd14 ct14 oc15 kV15 dc15 pm15 cd15 ct15 oc16 kV16 dc16 pm16 cd16 ct16 oc17 kV17 dc17 pm17 cd17 ct17 oc18 kV18 dc18 pm18 cd18 ct18 oc19 kV19 dc19 pm19 cd19 ct19 oc20 kV20 dc20 pm20 cd20 ct20 oc21 kV21 dc21 pm21 cd21 ct21 oc22 kV22 dc22 pm22 cd22 ct22 oc23 kV23 dc23 pm23 cd23 ct23 oc24 kV24 dc24 pm24 cd24 ct24 oc25 kV25 dc25 pm25 cd25 ct25 oc26 kV26 dc26 pm26 cd26 ct26 oc27 kV27 dc27 pm27 cd27 ct27 oc28 kV28 dc28 pm28 cd28 ct28 oc29 kV29 dc29 pm29 cd29 ct29 oc30 kV30 dc30 pm30 cd30 ct30 oc31 kV31 dc31 pm31 cd31 ct31 oc32 kV32 dc32 pm32 cd32 ct32 oc33 kV33 dc33 pm33 cd33 ct33 oc34 kV34 dc34 pm34 cd34 ct34 oc35 kV35 dc35 pm35 cd35 ct35 : Value}
    {t7 : Addr} {tc7 : Value} {td7 : Option Addr} {tn7 : Nat} {ts7 : Array (Option Value)}
    {t_COMMANDS : Addr} {td_COMMANDS : Option Addr} {tn_COMMANDS : Nat} {ts_COMMANDS : Array (Option Value)} {u0_COMMANDS u1_COMMANDS u2_COMMANDS u3_COMMANDS u4_COMMANDS u5_COMMANDS u6_COMMANDS u7_COMMANDS u8_COMMANDS : Tok}
    {t_NAME_ALONE : Addr} {td_NAME_ALONE : Option Addr} {tn_NAME_ALONE : Nat} {ts_NAME_ALONE : Array (Option Value)} {u0_NAME_ALONE u1_NAME_ALONE u2_NAME_ALONE u3_NAME_ALONE u4_NAME_ALONE : Tok}
    {nm_NoText q_NoText : Str} {N_NoText : Addr} {bs_NoText bm_NoText : List Value} {sn_NoText sub_NoText ab_NoText col_NoText dd_NoText k0_NoText k1_NoText k2_NoText k3_NoText k5_NoText : _}
    {nm_Refused q_Refused : Str} {N_Refused : Addr} {bs_Refused bm_Refused : List Value} {sn_Refused sub_Refused ab_Refused col_Refused dd_Refused k0_Refused k1_Refused k2_Refused k3_Refused k5_Refused : _}
    {tk_MOST tk_MOST_DIGITS_lattice tk_MOST_DIGITS_sheet tk_MOST_LETTERS tk_MOST_NUMBER tk_MOST_ROWS tk_MOST_SIGNS tk_PERCENT : Tok}
    (A1 : PySem.W.findIn K (.ref X_Refused) "__init__" = some (some (.ref f1)))
    (I1 : PySem.W.isFn K (.ref f1) = true)
    (L1 : K.lookup f1 = some ⟨oc1, od1, .func (PySem.W.fnOf "__init__" "Refused.__init__" (defArgs s_Refused_init) (defBody s_Refused_init) (defScope s_Refused_init) .none kV1 dc1 pm1 an1 cd1 ct1), sl1⟩)
    (D1 : PySem.W.codeIn K cd1 "Refused.__init__" = true)
    (K1 : PySem.W.keepIn K (.ref f1) = true)
    (A2 : PySem.W.findIn K (.ref X_NoText) "__init__" = some (some (.ref f2)))
    (I2 : PySem.W.isFn K (.ref f2) = true)
    (L2 : K.lookup f2 = some ⟨oc2, od2, .func (PySem.W.fnOf "__init__" "NoText.__init__" (defArgs s_NoText_init) (defBody s_NoText_init) (defScope s_NoText_init) .none kV2 dc2 pm2 an2 cd2 ct2), sl2⟩)
    (D2 : PySem.W.codeIn K cd2 "NoText.__init__" = true)
    (K2 : PySem.W.keepIn K (.ref f2) = true)
    (A3 : PySem.W.nsIn K mainGlobals "is_integer" = some (some (.ref f3)))
    (L3 : K.lookup f3 = some ⟨oc3, od3, .func (PySem.W.fnOf "is_integer" "is_integer" (defArgs s_is_integer) (defBody s_is_integer) (defScope s_is_integer) .none kV3 dc3 pm3 an3 cd3 ct3), sl3⟩)
    (D3 : PySem.W.codeIn K cd3 "is_integer" = true)
    (K3 : PySem.W.keepIn K (.ref f3) = true)
    (A4 : PySem.W.nsIn K mainGlobals "determinant_of" = some (some (.ref f4)))
    (L4 : K.lookup f4 = some ⟨oc4, od4, .func (PySem.W.fnOf "determinant_of" "determinant_of" (defArgs s_determinant_of) (defBody s_determinant_of) (defScope s_determinant_of) .none kV4 dc4 pm4 an4 cd4 ct4), sl4⟩)
    (D4 : PySem.W.codeIn K cd4 "determinant_of" = true)
    (K4 : PySem.W.keepIn K (.ref f4) = true)
    (A5 : PySem.W.nsIn K mainGlobals "first_with_head" = some (some (.ref f5)))
    (L5 : K.lookup f5 = some ⟨oc5, od5, .func (PySem.W.fnOf "first_with_head" "first_with_head" (defArgs s_first_with_head) (defBody s_first_with_head) (defScope s_first_with_head) .none kV5 dc5 pm5 an5 cd5 ct5), sl5⟩)
    (D5 : PySem.W.codeIn K cd5 "first_with_head" = true)
    (K5 : PySem.W.keepIn K (.ref f5) = true)
    (A6 : PySem.W.nsIn K mainGlobals "cleared" = some (some (.ref f6)))
    (L6 : K.lookup f6 = some ⟨oc6, od6, .func (PySem.W.fnOf "cleared" "cleared" (defArgs s_cleared) (defBody s_cleared) (defScope s_cleared) .none kV6 dc6 pm6 an6 cd6 ct6), sl6⟩)
    (D6 : PySem.W.codeIn K cd6 "cleared" = true)
    (K6 : PySem.W.keepIn K (.ref f6) = true)
    (A7 : PySem.W.findIn K (.ref C_Grid) "__init__" = some (some (.ref f7)))
    (I7 : PySem.W.isFn K (.ref f7) = true)
    (L7 : K.lookup f7 = some ⟨oc7, od7, .func (PySem.W.fnOf "__init__" "Grid.__init__" (defArgs s_Grid_init) (defBody s_Grid_init) (defScope s_Grid_init) (.ref t7) kV7 dc7 pm7 an7 cd7 ct7), sl7⟩)
    (T7 : K.lookup t7 = some ⟨tc7, td7, .seq [Value.none].toArray tn7, ts7⟩)
    (D7 : PySem.W.codeIn K cd7 "Grid.__init__" = true)
    (K7 : PySem.W.keepIn K (.ref f7) = true)
    (A8 : PySem.W.findIn K (.ref C_Grid) "__eq__" = some (some (.ref f8)))
    (I8 : PySem.W.isFn K (.ref f8) = true)
    (L8 : K.lookup f8 = some ⟨oc8, od8, .func (PySem.W.fnOf "__eq__" "Grid.__eq__" (defArgs s_Grid_eq) (defBody s_Grid_eq) (defScope s_Grid_eq) .none kV8 dc8 pm8 an8 cd8 ct8), sl8⟩)
    (D8 : PySem.W.codeIn K cd8 "Grid.__eq__" = true)
    (K8 : PySem.W.keepIn K (.ref f8) = true)
    (A9 : PySem.W.findIn K (.ref C_Grid) "transposed" = some (some (.ref f9)))
    (I9 : PySem.W.isFn K (.ref f9) = true)
    (L9 : K.lookup f9 = some ⟨oc9, od9, .func (PySem.W.fnOf "transposed" "Grid.transposed" (defArgs s_Grid_transposed) (defBody s_Grid_transposed) (defScope s_Grid_transposed) .none kV9 dc9 pm9 an9 cd9 ct9), sl9⟩)
    (D9 : PySem.W.codeIn K cd9 "Grid.transposed" = true)
    (K9 : PySem.W.keepIn K (.ref f9) = true)
    (A10 : PySem.W.nsIn K mainGlobals "checked_rows" = some (some (.ref f10)))
    (L10 : K.lookup f10 = some ⟨oc10, od10, .func (PySem.W.fnOf "checked_rows" "checked_rows" (defArgs s_checked_rows) (defBody s_checked_rows) (defScope s_checked_rows) .none kV10 dc10 pm10 an10 cd10 ct10), sl10⟩)
    (D10 : PySem.W.codeIn K cd10 "checked_rows" = true)
    (K10 : PySem.W.keepIn K (.ref f10) = true)
    (A11 : PySem.W.nsIn K mainGlobals "checked_width" = some (some (.ref f11)))
    (L11 : K.lookup f11 = some ⟨oc11, od11, .func (PySem.W.fnOf "checked_width" "checked_width" (defArgs s_checked_width) (defBody s_checked_width) (defScope s_checked_width) .none kV11 dc11 pm11 an11 cd11 ct11), sl11⟩)
    (D11 : PySem.W.codeIn K cd11 "checked_width" = true)
    (K11 : PySem.W.keepIn K (.ref f11) = true)
    (A12 : PySem.W.nsIn K mainGlobals "is_word" = some (some (.ref f12)))
    (L12 : K.lookup f12 = some ⟨oc12, od12, .func (PySem.W.fnOf "is_word" "is_word" (defArgs s_is_word) (defBody s_is_word) (defScope s_is_word) .none kV12 dc12 pm12 an12 cd12 ct12), sl12⟩)
    (D12 : PySem.W.codeIn K cd12 "is_word" = true)
    (K12 : PySem.W.keepIn K (.ref f12) = true)
    (A13 : PySem.W.nsIn K mainGlobals "is_number" = some (some (.ref f13)))
    (L13 : K.lookup f13 = some ⟨oc13, od13, .func (PySem.W.fnOf "is_number" "is_number" (defArgs s_is_number) (defBody s_is_number) (defScope s_is_number) .none kV13 dc13 pm13 an13 cd13 ct13), sl13⟩)
    (D13 : PySem.W.codeIn K cd13 "is_number" = true)
    (K13 : PySem.W.keepIn K (.ref f13) = true)
    (A14 : PySem.W.findIn K (.ref C_Lattice) "__init__" = some (some (.ref f14)))
    (I14 : PySem.W.isFn K (.ref f14) = true)
    (L14 : K.lookup f14 = some ⟨oc14, od14, .func (PySem.W.fnOf "__init__" "Lattice.__init__" (defArgs s_Lattice_init) (defBody s_Lattice_init) (defScope s_Lattice_init) .none kV14 dc14 pm14 an14 cd14 ct14), sl14⟩)
    (D14 : PySem.W.codeIn K cd14 "Lattice.__init__" = true)
    (K14 : PySem.W.keepIn K (.ref f14) = true)
    (A15 : PySem.W.findIn K (.ref C_Lattice) "__eq__" = some (some (.ref f15)))
    (I15 : PySem.W.isFn K (.ref f15) = true)
    (L15 : K.lookup f15 = some ⟨oc15, od15, .func (PySem.W.fnOf "__eq__" "Lattice.__eq__" (defArgs s_Lattice_eq) (defBody s_Lattice_eq) (defScope s_Lattice_eq) .none kV15 dc15 pm15 an15 cd15 ct15), sl15⟩)
    (D15 : PySem.W.codeIn K cd15 "Lattice.__eq__" = true)
    (K15 : PySem.W.keepIn K (.ref f15) = true)
    (A16 : PySem.W.findIn K (.ref C_Lattice) "__str__" = some (some (.ref f16)))
    (I16 : PySem.W.isFn K (.ref f16) = true)
    (L16 : K.lookup f16 = some ⟨oc16, od16, .func (PySem.W.fnOf "__str__" "Lattice.__str__" (defArgs s_Lattice_str) (defBody s_Lattice_str) (defScope s_Lattice_str) .none kV16 dc16 pm16 an16 cd16 ct16), sl16⟩)
    (D16 : PySem.W.codeIn K cd16 "Lattice.__str__" = true)
    (K16 : PySem.W.keepIn K (.ref f16) = true)
    (A17 : PySem.W.nsIn K mainGlobals "checked_gram" = some (some (.ref f17)))
    (L17 : K.lookup f17 = some ⟨oc17, od17, .func (PySem.W.fnOf "checked_gram" "checked_gram" (defArgs s_checked_gram) (defBody s_checked_gram) (defScope s_checked_gram) .none kV17 dc17 pm17 an17 cd17 ct17), sl17⟩)
    (D17 : PySem.W.codeIn K cd17 "checked_gram" = true)
    (K17 : PySem.W.keepIn K (.ref f17) = true)
    (A18 : PySem.W.nsIn K mainGlobals "is_positive" = some (some (.ref f18)))
    (L18 : K.lookup f18 = some ⟨oc18, od18, .func (PySem.W.fnOf "is_positive" "is_positive" (defArgs s_is_positive) (defBody s_is_positive) (defScope s_is_positive) .none kV18 dc18 pm18 an18 cd18 ct18), sl18⟩)
    (D18 : PySem.W.codeIn K cd18 "is_positive" = true)
    (K18 : PySem.W.keepIn K (.ref f18) = true)
    (A19 : PySem.W.nsIn K mainGlobals "read_lattice" = some (some (.ref f19)))
    (L19 : K.lookup f19 = some ⟨oc19, od19, .func (PySem.W.fnOf "read_lattice" "read_lattice" (defArgs s_read_lattice) (defBody s_read_lattice) (defScope s_read_lattice) .none kV19 dc19 pm19 an19 cd19 ct19), sl19⟩)
    (D19 : PySem.W.codeIn K cd19 "read_lattice" = true)
    (K19 : PySem.W.keepIn K (.ref f19) = true)
    (A20 : PySem.W.nsIn K mainGlobals "is_name" = some (some (.ref f20)))
    (L20 : K.lookup f20 = some ⟨oc20, od20, .func (PySem.W.fnOf "is_name" "is_name" (defArgs s_is_name) (defBody s_is_name) (defScope s_is_name) .none kV20 dc20 pm20 an20 cd20 ct20), sl20⟩)
    (D20 : PySem.W.codeIn K cd20 "is_name" = true)
    (K20 : PySem.W.keepIn K (.ref f20) = true)
    (A21 : PySem.W.nsIn K mainGlobals "read_line" = some (some (.ref f21)))
    (L21 : K.lookup f21 = some ⟨oc21, od21, .func (PySem.W.fnOf "read_line" "read_line" (defArgs s_read_line) (defBody s_read_line) (defScope s_read_line) .none kV21 dc21 pm21 an21 cd21 ct21), sl21⟩)
    (D21 : PySem.W.codeIn K cd21 "read_line" = true)
    (K21 : PySem.W.keepIn K (.ref f21) = true)
    (A22 : PySem.W.nsIn K mainGlobals "is_line" = some (some (.ref f22)))
    (L22 : K.lookup f22 = some ⟨oc22, od22, .func (PySem.W.fnOf "is_line" "is_line" (defArgs s_is_line) (defBody s_is_line) (defScope s_is_line) .none kV22 dc22 pm22 an22 cd22 ct22), sl22⟩)
    (D22 : PySem.W.codeIn K cd22 "is_line" = true)
    (K22 : PySem.W.keepIn K (.ref f22) = true)
    (A23 : PySem.W.nsIn K mainGlobals "read_let" = some (some (.ref f23)))
    (L23 : K.lookup f23 = some ⟨oc23, od23, .func (PySem.W.fnOf "read_let" "read_let" (defArgs s_read_let) (defBody s_read_let) (defScope s_read_let) .none kV23 dc23 pm23 an23 cd23 ct23), sl23⟩)
    (D23 : PySem.W.codeIn K cd23 "read_let" = true)
    (K23 : PySem.W.keepIn K (.ref f23) = true)
    (A24 : PySem.W.nsIn K mainGlobals "read_words" = some (some (.ref f24)))
    (L24 : K.lookup f24 = some ⟨oc24, od24, .func (PySem.W.fnOf "read_words" "read_words" (defArgs s_read_words) (defBody s_read_words) (defScope s_read_words) .none kV24 dc24 pm24 an24 cd24 ct24), sl24⟩)
    (D24 : PySem.W.codeIn K cd24 "read_words" = true)
    (K24 : PySem.W.keepIn K (.ref f24) = true)
    (A25 : PySem.W.nsIn K mainGlobals "checked_name" = some (some (.ref f25)))
    (L25 : K.lookup f25 = some ⟨oc25, od25, .func (PySem.W.fnOf "checked_name" "checked_name" (defArgs s_checked_name) (defBody s_checked_name) (defScope s_checked_name) .none kV25 dc25 pm25 an25 cd25 ct25), sl25⟩)
    (D25 : PySem.W.codeIn K cd25 "checked_name" = true)
    (K25 : PySem.W.keepIn K (.ref f25) = true)
    (A26 : PySem.W.nsIn K mainGlobals "read_number" = some (some (.ref f26)))
    (L26 : K.lookup f26 = some ⟨oc26, od26, .func (PySem.W.fnOf "read_number" "read_number" (defArgs s_read_number) (defBody s_read_number) (defScope s_read_number) .none kV26 dc26 pm26 an26 cd26 ct26), sl26⟩)
    (D26 : PySem.W.codeIn K cd26 "read_number" = true)
    (K26 : PySem.W.keepIn K (.ref f26) = true)
    (A27 : PySem.W.nsIn K mainGlobals "_law_numbers" = some (some (.ref f27)))
    (L27 : K.lookup f27 = some ⟨oc27, od27, .func (PySem.W.fnOf "_law_numbers" "_law_numbers" (defArgs s_law_numbers) (defBody s_law_numbers) (defScope s_law_numbers) .none kV27 dc27 pm27 an27 cd27 ct27), sl27⟩)
    (D27 : PySem.W.codeIn K cd27 "_law_numbers" = true)
    (K27 : PySem.W.keepIn K (.ref f27) = true)
    (A28 : PySem.W.nsIn K mainGlobals "_law_next" = some (some (.ref f28)))
    (L28 : K.lookup f28 = some ⟨oc28, od28, .func (PySem.W.fnOf "_law_next" "_law_next" (defArgs s_law_next) (defBody s_law_next) (defScope s_law_next) .none kV28 dc28 pm28 an28 cd28 ct28), sl28⟩)
    (D28 : PySem.W.codeIn K cd28 "_law_next" = true)
    (K28 : PySem.W.keepIn K (.ref f28) = true)
    (A29 : PySem.W.nsIn K mainGlobals "_law_space" = some (some (.ref f29)))
    (L29 : K.lookup f29 = some ⟨oc29, od29, .func (PySem.W.fnOf "_law_space" "_law_space" (defArgs s_law_space) (defBody s_law_space) (defScope s_law_space) .none kV29 dc29 pm29 an29 cd29 ct29), sl29⟩)
    (D29 : PySem.W.codeIn K cd29 "_law_space" = true)
    (K29 : PySem.W.keepIn K (.ref f29) = true)
    (A30 : PySem.W.nsIn K mainGlobals "_law_name" = some (some (.ref f30)))
    (L30 : K.lookup f30 = some ⟨oc30, od30, .func (PySem.W.fnOf "_law_name" "_law_name" (defArgs s_law_name) (defBody s_law_name) (defScope s_law_name) .none kV30 dc30 pm30 an30 cd30 ct30), sl30⟩)
    (D30 : PySem.W.codeIn K cd30 "_law_name" = true)
    (K30 : PySem.W.keepIn K (.ref f30) = true)
    (A31 : PySem.W.nsIn K mainGlobals "_law_command" = some (some (.ref f31)))
    (L31 : K.lookup f31 = some ⟨oc31, od31, .func (PySem.W.fnOf "_law_command" "_law_command" (defArgs s_law_command) (defBody s_law_command) (defScope s_law_command) .none kV31 dc31 pm31 an31 cd31 ct31), sl31⟩)
    (D31 : PySem.W.codeIn K cd31 "_law_command" = true)
    (K31 : PySem.W.keepIn K (.ref f31) = true)
    (A32 : PySem.W.nsIn K mainGlobals "_law_words" = some (some (.ref f32)))
    (L32 : K.lookup f32 = some ⟨oc32, od32, .func (PySem.W.fnOf "_law_words" "_law_words" (defArgs s_law_words) (defBody s_law_words) (defScope s_law_words) .none kV32 dc32 pm32 an32 cd32 ct32), sl32⟩)
    (D32 : PySem.W.codeIn K cd32 "_law_words" = true)
    (K32 : PySem.W.keepIn K (.ref f32) = true)
    (A33 : PySem.W.nsIn K mainGlobals "_law_line" = some (some (.ref f33)))
    (L33 : K.lookup f33 = some ⟨oc33, od33, .func (PySem.W.fnOf "_law_line" "_law_line" (defArgs s_law_line) (defBody s_law_line) (defScope s_law_line) .none kV33 dc33 pm33 an33 cd33 ct33), sl33⟩)
    (D33 : PySem.W.codeIn K cd33 "_law_line" = true)
    (K33 : PySem.W.keepIn K (.ref f33) = true)
    (A34 : PySem.W.nsIn K mainGlobals "_law_refuses" = some (some (.ref f34)))
    (L34 : K.lookup f34 = some ⟨oc34, od34, .func (PySem.W.fnOf "_law_refuses" "_law_refuses" (defArgs s_law_refuses) (defBody s_law_refuses) (defScope s_law_refuses) .none kV34 dc34 pm34 an34 cd34 ct34), sl34⟩)
    (D34 : PySem.W.codeIn K cd34 "_law_refuses" = true)
    (K34 : PySem.W.keepIn K (.ref f34) = true)
    (A35 : PySem.W.nsIn K mainGlobals "law" = some (some (.ref f35)))
    (L35 : K.lookup f35 = some ⟨oc35, od35, .func (PySem.W.fnOf "law" "law" (defArgs s_law) (defBody s_law) (defScope s_law) .none kV35 dc35 pm35 an35 cd35 ct35), sl35⟩)
    (D35 : PySem.W.codeIn K cd35 "law" = true)
    (K35 : PySem.W.keepIn K (.ref f35) = true)
    (aC_Grid : PySem.W.nsIn K mainGlobals "Grid" = some (some (.ref C_Grid)))
    (pg_Grid : PySem.W.plainGet K C_Grid Str.empty = true)
    (hd_Grid : PySem.W.hasDictIn K C_Grid = true)
    (po_Grid : PySem.W.plainOver K C_Grid = true)
    (sa_Grid : PySem.W.findIn K (.ref C_Grid) "__setattr__" = some (some (.builtin "object.__setattr__")))
    (mk_Grid : PySem.W.makesIn K C_Grid = true)
    (kc_Grid : PySem.W.keepIn K (.ref C_Grid) = true)
    (nrows_Grid : PySem.W.findIn K (.ref C_Grid) "rows" = some none)
    (nwidth_Grid : PySem.W.findIn K (.ref C_Grid) "width" = some none)
    (sf_Grid : PySem.W.selfFirst K C_Grid = true)
    (yc_Grid : PySem.W.findIn K (.ref C_Grid) "__class__" = some (some (.builtin "object.__class__")))
    (yg_Grid : PySem.W.specialIn K (.builtin "object.__class__") "__get__" = some (some (.builtin "getset_descriptor.__get__")))
    (yt_Grid : PySem.W.takesIn K (.builtin "object.__class__") = some true)
    (ym_Grid : PySem.W.mroIn K C_Grid (.type "object") = some true)
    (yt2_Grid : PySem.W.typeIn K (.ref C_Grid) = some (.type "type"))
    (yi_Grid : PySem.W.isClsIn K C_Grid = true)
    (yn_Grid : PySem.W.findIn K (.ref C_Grid) "__ne__" = some (some (.builtin "object.__ne__")))
    (aC_Lattice : PySem.W.nsIn K mainGlobals "Lattice" = some (some (.ref C_Lattice)))
    (pg_Lattice : PySem.W.plainGet K C_Lattice Str.empty = true)
    (hd_Lattice : PySem.W.hasDictIn K C_Lattice = true)
    (po_Lattice : PySem.W.plainOver K C_Lattice = true)
    (sa_Lattice : PySem.W.findIn K (.ref C_Lattice) "__setattr__" = some (some (.builtin "object.__setattr__")))
    (mk_Lattice : PySem.W.makesIn K C_Lattice = true)
    (kc_Lattice : PySem.W.keepIn K (.ref C_Lattice) = true)
    (ngram_Lattice : PySem.W.findIn K (.ref C_Lattice) "gram" = some none)
    (sf_Lattice : PySem.W.selfFirst K C_Lattice = true)
    (yc_Lattice : PySem.W.findIn K (.ref C_Lattice) "__class__" = some (some (.builtin "object.__class__")))
    (yg_Lattice : PySem.W.specialIn K (.builtin "object.__class__") "__get__" = some (some (.builtin "getset_descriptor.__get__")))
    (yt_Lattice : PySem.W.takesIn K (.builtin "object.__class__") = some true)
    (ym_Lattice : PySem.W.mroIn K C_Lattice (.type "object") = some true)
    (yt2_Lattice : PySem.W.typeIn K (.ref C_Lattice) = some (.type "type"))
    (yi_Lattice : PySem.W.isClsIn K C_Lattice = true)
    (yn_Lattice : PySem.W.findIn K (.ref C_Lattice) "__ne__" = some (some (.builtin "object.__ne__")))
    (sub_GL : PySem.W.subIn K (.ref C_Grid) (.ref C_Lattice) = some false)
    (sX_L : PySem.W.subIn K (.ref C_Lattice) (.ref C_Lattice) = some true)
    (c_MOST : PySem.W.nsIn K mainGlobals "MOST" = some (some (.int 10000 tk_MOST)))
    (c_MOST_DIGITS_lattice : PySem.W.nsIn K mainGlobals "MOST_DIGITS_lattice" = some (some (.int 5 tk_MOST_DIGITS_lattice)))
    (c_MOST_DIGITS_sheet : PySem.W.nsIn K mainGlobals "MOST_DIGITS_sheet" = some (some (.int 4 tk_MOST_DIGITS_sheet)))
    (c_MOST_LETTERS : PySem.W.nsIn K mainGlobals "MOST_LETTERS" = some (some (.int 8 tk_MOST_LETTERS)))
    (c_MOST_NUMBER : PySem.W.nsIn K mainGlobals "MOST_NUMBER" = some (some (.int 9999 tk_MOST_NUMBER)))
    (c_MOST_ROWS : PySem.W.nsIn K mainGlobals "MOST_ROWS" = some (some (.int 4 tk_MOST_ROWS)))
    (c_MOST_SIGNS : PySem.W.nsIn K mainGlobals "MOST_SIGNS" = some (some (.int 2000 tk_MOST_SIGNS)))
    (c_PERCENT : PySem.W.nsIn K mainGlobals "PERCENT" = some (some (.int 37 tk_PERCENT)))
    (aC_tCOMMANDS : PySem.W.nsIn K mainGlobals "COMMANDS" = some (some (.ref t_COMMANDS)))
    (L_COMMANDS : K.lookup t_COMMANDS = some ⟨.type "tuple", td_COMMANDS, .seq [Value.str "form" u0_COMMANDS, Value.str "alike" u1_COMMANDS, Value.str "group" u2_COMMANDS, Value.str "short" u3_COMMANDS, Value.str "nearest" u4_COMMANDS, Value.str "parts" u5_COMMANDS, Value.str "dual" u6_COMMANDS, Value.str "below" u7_COMMANDS, Value.str "above" u8_COMMANDS].toArray tn_COMMANDS, ts_COMMANDS⟩)
    (aC_tNAME_ALONE : PySem.W.nsIn K mainGlobals "NAME_ALONE" = some (some (.ref t_NAME_ALONE)))
    (L_NAME_ALONE : K.lookup t_NAME_ALONE = some ⟨.type "tuple", td_NAME_ALONE, .seq [Value.str "form" u0_NAME_ALONE, Value.str "group" u1_NAME_ALONE, Value.str "parts" u2_NAME_ALONE, Value.str "dual" u3_NAME_ALONE, Value.str "above" u4_NAME_ALONE].toArray tn_NAME_ALONE, ts_NAME_ALONE⟩)
    (z_ValueError : PySem.W.nsIn K mainGlobals "ValueError" = some none)
    (z_abs : PySem.W.nsIn K mainGlobals "abs" = some none)
    (z_all : PySem.W.nsIn K mainGlobals "all" = some none)
    (z_bool : PySem.W.nsIn K mainGlobals "bool" = some none)
    (z_enumerate : PySem.W.nsIn K mainGlobals "enumerate" = some none)
    (z_int : PySem.W.nsIn K mainGlobals "int" = some none)
    (z_isinstance : PySem.W.nsIn K mainGlobals "isinstance" = some none)
    (z_len : PySem.W.nsIn K mainGlobals "len" = some none)
    (z_list : PySem.W.nsIn K mainGlobals "list" = some none)
    (z_max : PySem.W.nsIn K mainGlobals "max" = some none)
    (z_min : PySem.W.nsIn K mainGlobals "min" = some none)
    (z_ord : PySem.W.nsIn K mainGlobals "ord" = some none)
    (z_range : PySem.W.nsIn K mainGlobals "range" = some none)
    (z_str : PySem.W.nsIn K mainGlobals "str" = some none)
    (z_tuple : PySem.W.nsIn K mainGlobals "tuple" = some none)
    (aX_Malformed : PySem.W.nsIn K mainGlobals "Malformed" = some (some (.ref X_Malformed)))
    (xX_Malformed : PySem.W.excIn K X_Malformed [.type "ValueError", .type "Exception", .type "BaseException", .type "object"] "ValueError.__new__" = true)
    (kX_Malformed : PySem.W.keepIn K (.ref X_Malformed) = true)
    (bX_Malformed : PySem.W.subIn K (.ref X_Malformed) (.type "BaseException") = some true)
    (tX_Malformed : PySem.W.typeIn K (.ref X_Malformed) = some (.type "type"))
    (iX_Malformed : PySem.W.isClsIn K X_Malformed = true)
    (sX_Malformed : PySem.W.subIn K (.ref X_Malformed) (.ref X_Malformed) = some true)
    (aX_NoText : PySem.W.nsIn K mainGlobals "NoText" = some (some (.ref X_NoText)))
    (kX_NoText : PySem.W.keepIn K (.ref X_NoText) = true)
    (bX_NoText : PySem.W.subIn K (.ref X_NoText) (.type "BaseException") = some true)
    (tX_NoText : PySem.W.typeIn K (.ref X_NoText) = some (.type "type"))
    (iX_NoText : PySem.W.isClsIn K X_NoText = true)
    (sX_NoText : PySem.W.subIn K (.ref X_NoText) (.ref X_NoText) = some true)
    (aX_Refused : PySem.W.nsIn K mainGlobals "Refused" = some (some (.ref X_Refused)))
    (kX_Refused : PySem.W.keepIn K (.ref X_Refused) = true)
    (bX_Refused : PySem.W.subIn K (.ref X_Refused) (.type "BaseException") = some true)
    (tX_Refused : PySem.W.typeIn K (.ref X_Refused) = some (.type "type"))
    (iX_Refused : PySem.W.isClsIn K X_Refused = true)
    (sX_Refused : PySem.W.subIn K (.ref X_Refused) (.ref X_Refused) = some true)
    (lX_NoText : K.lookup X_NoText = some (excClassObj nm_NoText q_NoText X_NoText N_NoText bs_NoText bm_NoText true sn_NoText sub_NoText ab_NoText col_NoText dd_NoText k0_NoText k1_NoText k2_NoText k3_NoText k5_NoText "ValueError.__new__"))
    (rX_NoText : PySem.HandSPX.refsVE bm_NoText = true)
    (saX_NoText : PySem.W.findIn K (.ref X_NoText) "__setattr__" = some (some (.builtin "object.__setattr__")))
    (jI_NoText : PySem.W.typeIn K (.ref f2) = some (.type "function"))
    (nf_NoText : PySem.W.findIn K (.ref X_NoText) "at" = some none)
    (gaX_NoText : PySem.W.findIn K (.ref X_NoText) "__getattribute__" = some (some (.builtin "BaseException.__getattribute__")))
    (ggX_NoText : PySem.W.findIn K (.ref X_NoText) "__getattr__" = some none)
    (hdX_NoText : PySem.W.hasDictIn K X_NoText = true)
    (mX_NoText : PySem.W.mroIn K X_NoText (.type "object") = some true)
    (hX_NoText : PySem.W.findIn K (.ref X_NoText) "__class__" = some (some (.builtin "object.__class__")))
    (sub_NoText_Malformed : PySem.W.subIn K (.ref X_NoText) (.ref X_Malformed) = some false)
    (sub_Malformed_NoText : PySem.W.subIn K (.ref X_Malformed) (.ref X_NoText) = some false)
    (sub_NoText_Refused : PySem.W.subIn K (.ref X_NoText) (.ref X_Refused) = some false)
    (sub_Refused_NoText : PySem.W.subIn K (.ref X_Refused) (.ref X_NoText) = some false)
    (lX_Refused : K.lookup X_Refused = some (excClassObj nm_Refused q_Refused X_Refused N_Refused bs_Refused bm_Refused true sn_Refused sub_Refused ab_Refused col_Refused dd_Refused k0_Refused k1_Refused k2_Refused k3_Refused k5_Refused "ValueError.__new__"))
    (rX_Refused : PySem.HandSPX.refsVE bm_Refused = true)
    (saX_Refused : PySem.W.findIn K (.ref X_Refused) "__setattr__" = some (some (.builtin "object.__setattr__")))
    (jI_Refused : PySem.W.typeIn K (.ref f1) = some (.type "function"))
    (nf_Refused : PySem.W.findIn K (.ref X_Refused) "reason" = some none)
    (gaX_Refused : PySem.W.findIn K (.ref X_Refused) "__getattribute__" = some (some (.builtin "BaseException.__getattribute__")))
    (ggX_Refused : PySem.W.findIn K (.ref X_Refused) "__getattr__" = some none)
    (hdX_Refused : PySem.W.hasDictIn K X_Refused = true)
    (mX_Refused : PySem.W.mroIn K X_Refused (.type "object") = some true)
    (hX_Refused : PySem.W.findIn K (.ref X_Refused) "__class__" = some (some (.builtin "object.__class__")))
    (sub_Refused_Malformed : PySem.W.subIn K (.ref X_Refused) (.ref X_Malformed) = some false)
    (sub_Malformed_Refused : PySem.W.subIn K (.ref X_Malformed) (.ref X_Refused) = some false)
    : ∃ fd : FuncData, (∀ (s : Shared) (v : Value), BindsTo s fd ⟨[v], []⟩ [("script", v)]) ∧ ∀ base : Heap, K.In base → base.Ns mainGlobals mg → base.NoSeer → FnOk l.prog w K mg base CX0 51 fa fd ["script"] (sp_law K) := by
  have e := hfa.symm.trans (PySem.W.mg_of X G A35)
  cases e
  have F1 := fun_mk (st := s_Refused_init) L1 D1 K1
  have b1 := F1.binds (ps := ["self", "reason"]) fun _ _ _ _ _ _ us hl => match us, hl with | [_, _], _ => rfl
  have F2 := fun_mk (st := s_NoText_init) L2 D2 K2
  have b2 := F2.binds (ps := ["self", "at"]) fun _ _ _ _ _ _ us hl => match us, hl with | [_, _], _ => rfl
  have F3 := fun_mk (st := s_is_integer) L3 D3 K3
  have b3 := F3.binds (ps := ["value"]) fun _ _ _ _ _ _ us hl => match us, hl with | [_], _ => rfl
  have F4 := fun_mk (st := s_determinant_of) L4 D4 K4
  have b4 := F4.binds (ps := ["rows"]) fun _ _ _ _ _ _ us hl => match us, hl with | [_], _ => rfl
  have F5 := fun_mk (st := s_first_with_head) L5 D5 K5
  have b5 := F5.binds (ps := ["rows"]) fun _ _ _ _ _ _ us hl => match us, hl with | [_], _ => rfl
  have F6 := fun_mk (st := s_cleared) L6 D6 K6
  have b6 := F6.binds (ps := ["top", "row", "last"]) fun _ _ _ _ _ _ us hl => match us, hl with | [_, _, _], _ => rfl
  have F7 : FunD K "__init__" "Grid.__init__" (defArgs s_Grid_init) (defBody s_Grid_init) (defScope s_Grid_init) [.non] [] f7 _ := ⟨⟨oc7, od7, _, kV7, dc7, pm7, an7, cd7, ct7, sl7, rfl, L7, D7, .inr ⟨by simp, t7, _, [.none], tn7, rfl, T7, rfl, .cons rfl .nil⟩, .inl rfl⟩, K7⟩
  obtain ⟨ds7, vd7, b7⟩ := F7.binds1 (ps := ["self", "rows", "width"]) 3 1 (by simp) rfl fun _ _ _ _ _ _ _ us its hl hi => match us, hl, its, hi with | [_, _, _], _, [_], _ => ⟨_, rfl, rfl⟩
  obtain rfl : ds7 = [] := by cases vd7; rfl
  have F8 := fun_mk (st := s_Grid_eq) L8 D8 K8
  have b8 := F8.binds (ps := ["self", "other"]) fun _ _ _ _ _ _ us hl => match us, hl with | [_, _], _ => rfl
  have F9 := fun_mk (st := s_Grid_transposed) L9 D9 K9
  have b9 := F9.binds (ps := ["self"]) fun _ _ _ _ _ _ us hl => match us, hl with | [_], _ => rfl
  have F10 := fun_mk (st := s_checked_rows) L10 D10 K10
  have b10 := F10.binds (ps := ["rows"]) fun _ _ _ _ _ _ us hl => match us, hl with | [_], _ => rfl
  have F11 := fun_mk (st := s_checked_width) L11 D11 K11
  have b11 := F11.binds (ps := ["rows", "width"]) fun _ _ _ _ _ _ us hl => match us, hl with | [_, _], _ => rfl
  have F12 := fun_mk (st := s_is_word) L12 D12 K12
  have b12 := F12.binds (ps := ["value"]) fun _ _ _ _ _ _ us hl => match us, hl with | [_], _ => rfl
  have F13 := fun_mk (st := s_is_number) L13 D13 K13
  have b13 := F13.binds (ps := ["word", "most"]) fun _ _ _ _ _ _ us hl => match us, hl with | [_, _], _ => rfl
  have F14 := fun_mk (st := s_Lattice_init) L14 D14 K14
  have b14 := F14.binds (ps := ["self", "gram"]) fun _ _ _ _ _ _ us hl => match us, hl with | [_, _], _ => rfl
  have F15 := fun_mk (st := s_Lattice_eq) L15 D15 K15
  have b15 := F15.binds (ps := ["self", "other"]) fun _ _ _ _ _ _ us hl => match us, hl with | [_, _], _ => rfl
  have F16 := fun_mk (st := s_Lattice_str) L16 D16 K16
  have b16 := F16.binds (ps := ["self"]) fun _ _ _ _ _ _ us hl => match us, hl with | [_], _ => rfl
  have F17 := fun_mk (st := s_checked_gram) L17 D17 K17
  have b17 := F17.binds (ps := ["gram"]) fun _ _ _ _ _ _ us hl => match us, hl with | [_], _ => rfl
  have F18 := fun_mk (st := s_is_positive) L18 D18 K18
  have b18 := F18.binds (ps := ["rows"]) fun _ _ _ _ _ _ us hl => match us, hl with | [_], _ => rfl
  have F19 := fun_mk (st := s_read_lattice) L19 D19 K19
  have b19 := F19.binds (ps := ["text"]) fun _ _ _ _ _ _ us hl => match us, hl with | [_], _ => rfl
  have F20 := fun_mk (st := s_is_name) L20 D20 K20
  have b20 := F20.binds (ps := ["value"]) fun _ _ _ _ _ _ us hl => match us, hl with | [_], _ => rfl
  have F21 := fun_mk (st := s_read_line) L21 D21 K21
  have b21 := F21.binds (ps := ["line"]) fun _ _ _ _ _ _ us hl => match us, hl with | [_], _ => rfl
  have F22 := fun_mk (st := s_is_line) L22 D22 K22
  have b22 := F22.binds (ps := ["value"]) fun _ _ _ _ _ _ us hl => match us, hl with | [_], _ => rfl
  have F23 := fun_mk (st := s_read_let) L23 D23 K23
  have b23 := F23.binds (ps := ["line"]) fun _ _ _ _ _ _ us hl => match us, hl with | [_], _ => rfl
  have F24 := fun_mk (st := s_read_words) L24 D24 K24
  have b24 := F24.binds (ps := ["word", "rest"]) fun _ _ _ _ _ _ us hl => match us, hl with | [_, _], _ => rfl
  have F25 := fun_mk (st := s_checked_name) L25 D25 K25
  have b25 := F25.binds (ps := ["word"]) fun _ _ _ _ _ _ us hl => match us, hl with | [_], _ => rfl
  have F26 := fun_mk (st := s_read_number) L26 D26 K26
  have b26 := F26.binds (ps := ["word", "least"]) fun _ _ _ _ _ _ us hl => match us, hl with | [_, _], _ => rfl
  have F27 := fun_mk (st := s_law_numbers) L27 D27 K27
  have b27 := F27.binds (ps := ["script"]) fun _ _ _ _ _ _ us hl => match us, hl with | [_], _ => rfl
  have F28 := fun_mk (st := s_law_next) L28 D28 K28
  have b28 := F28.binds (ps := ["numbers", "many"]) fun _ _ _ _ _ _ us hl => match us, hl with | [_, _], _ => rfl
  have F29 := fun_mk (st := s_law_space) L29 D29 K29
  have b29 := F29.binds (ps := ["numbers"]) fun _ _ _ _ _ _ us hl => match us, hl with | [_], _ => rfl
  have F30 := fun_mk (st := s_law_name) L30 D30 K30
  have b30 := F30.binds (ps := ["numbers"]) fun _ _ _ _ _ _ us hl => match us, hl with | [_], _ => rfl
  have F31 := fun_mk (st := s_law_command) L31 D31 K31
  have b31 := F31.binds (ps := ["numbers"]) fun _ _ _ _ _ _ us hl => match us, hl with | [_], _ => rfl
  have F32 := fun_mk (st := s_law_words) L32 D32 K32
  have b32 := F32.binds (ps := ["command"]) fun _ _ _ _ _ _ us hl => match us, hl with | [_], _ => rfl
  have F33 := fun_mk (st := s_law_line) L33 D33 K33
  have b33 := F33.binds (ps := ["words", "numbers"]) fun _ _ _ _ _ _ us hl => match us, hl with | [_, _], _ => rfl
  have F34 := fun_mk (st := s_law_refuses) L34 D34 K34
  have b34 := F34.binds (ps := ["line"]) fun _ _ _ _ _ _ us hl => match us, hl with | [_], _ => rfl
  have F35 := fun_mk (st := s_law) L35 D35 K35
  have b35 := F35.binds (ps := ["script"]) fun _ _ _ _ _ _ us hl => match us, hl with | [_], _ => rfl
  let T : Top K mg := { a_Refused_init := f1, d_Refused_init := _, F_Refused_init := F1, b_Refused_init := b1, a_NoText_init := f2, d_NoText_init := _, F_NoText_init := F2, b_NoText_init := b2, a_is_integer := f3, d_is_integer := _, F_is_integer := F3, b_is_integer := b3, g_is_integer := PySem.W.mg_of X G A3, a_determinant_of := f4, d_determinant_of := _, F_determinant_of := F4, b_determinant_of := b4, g_determinant_of := PySem.W.mg_of X G A4, a_first_with_head := f5, d_first_with_head := _, F_first_with_head := F5, b_first_with_head := b5, g_first_with_head := PySem.W.mg_of X G A5, a_cleared := f6, d_cleared := _, F_cleared := F6, b_cleared := b6, g_cleared := PySem.W.mg_of X G A6, a_Grid_init := f7, d_Grid_init := _, F_Grid_init := F7, b_Grid_init := b7, a_Grid_eq := f8, d_Grid_eq := _, F_Grid_eq := F8, b_Grid_eq := b8, m_Grid_eq := ⟨A8, I8, K8⟩, a_Grid_transposed := f9, d_Grid_transposed := _, F_Grid_transposed := F9, b_Grid_transposed := b9, m_Grid_transposed := ⟨A9, I9, K9⟩, a_checked_rows := f10, d_checked_rows := _, F_checked_rows := F10, b_checked_rows := b10, g_checked_rows := PySem.W.mg_of X G A10, a_checked_width := f11, d_checked_width := _, F_checked_width := F11, b_checked_width := b11, g_checked_width := PySem.W.mg_of X G A11, a_is_word := f12, d_is_word := _, F_is_word := F12, b_is_word := b12, g_is_word := PySem.W.mg_of X G A12, a_is_number := f13, d_is_number := _, F_is_number := F13, b_is_number := b13, g_is_number := PySem.W.mg_of X G A13, a_Lattice_init := f14, d_Lattice_init := _, F_Lattice_init := F14, b_Lattice_init := b14, a_Lattice_eq := f15, d_Lattice_eq := _, F_Lattice_eq := F15, b_Lattice_eq := b15, m_Lattice_eq := ⟨A15, I15, K15⟩, a_Lattice_str := f16, d_Lattice_str := _, F_Lattice_str := F16, b_Lattice_str := b16, m_Lattice_str := ⟨A16, I16, K16⟩, a_checked_gram := f17, d_checked_gram := _, F_checked_gram := F17, b_checked_gram := b17, g_checked_gram := PySem.W.mg_of X G A17, a_is_positive := f18, d_is_positive := _, F_is_positive := F18, b_is_positive := b18, g_is_positive := PySem.W.mg_of X G A18, a_read_lattice := f19, d_read_lattice := _, F_read_lattice := F19, b_read_lattice := b19, g_read_lattice := PySem.W.mg_of X G A19, a_is_name := f20, d_is_name := _, F_is_name := F20, b_is_name := b20, g_is_name := PySem.W.mg_of X G A20, a_read_line := f21, d_read_line := _, F_read_line := F21, b_read_line := b21, g_read_line := PySem.W.mg_of X G A21, a_is_line := f22, d_is_line := _, F_is_line := F22, b_is_line := b22, g_is_line := PySem.W.mg_of X G A22, a_read_let := f23, d_read_let := _, F_read_let := F23, b_read_let := b23, g_read_let := PySem.W.mg_of X G A23, a_read_words := f24, d_read_words := _, F_read_words := F24, b_read_words := b24, g_read_words := PySem.W.mg_of X G A24, a_checked_name := f25, d_checked_name := _, F_checked_name := F25, b_checked_name := b25, g_checked_name := PySem.W.mg_of X G A25, a_read_number := f26, d_read_number := _, F_read_number := F26, b_read_number := b26, g_read_number := PySem.W.mg_of X G A26, a_law_numbers := f27, d_law_numbers := _, F_law_numbers := F27, b_law_numbers := b27, g_law_numbers := PySem.W.mg_of X G A27, a_law_next := f28, d_law_next := _, F_law_next := F28, b_law_next := b28, g_law_next := PySem.W.mg_of X G A28, a_law_space := f29, d_law_space := _, F_law_space := F29, b_law_space := b29, g_law_space := PySem.W.mg_of X G A29, a_law_name := f30, d_law_name := _, F_law_name := F30, b_law_name := b30, g_law_name := PySem.W.mg_of X G A30, a_law_command := f31, d_law_command := _, F_law_command := F31, b_law_command := b31, g_law_command := PySem.W.mg_of X G A31, a_law_words := f32, d_law_words := _, F_law_words := F32, b_law_words := b32, g_law_words := PySem.W.mg_of X G A32, a_law_line := f33, d_law_line := _, F_law_line := F33, b_law_line := b33, g_law_line := PySem.W.mg_of X G A33, a_law_refuses := f34, d_law_refuses := _, F_law_refuses := F34, b_law_refuses := b34, g_law_refuses := PySem.W.mg_of X G A34, a_law := fa, d_law := _, F_law := F35, b_law := b35, g_law := PySem.W.mg_of X G A35, C_Grid := C_Grid, g_Grid := PySem.W.mg_of X G aC_Grid, cl_Grid := ⟨pg_Grid, hd_Grid, po_Grid, sa_Grid⟩, mk_Grid := ⟨mk_Grid, A7, I7, kc_Grid⟩, n_rows := nrows_Grid, n_width := nwidth_Grid, sf_Grid := sf_Grid, kc_Grid := yc_Grid, kg_Grid := yg_Grid, kt_Grid := yt_Grid, km_Grid := ym_Grid, ty_Grid := yt2_Grid, ic_Grid := yi_Grid, ne_Grid := yn_Grid, C_Lattice := C_Lattice, g_Lattice := PySem.W.mg_of X G aC_Lattice, cl_Lattice := ⟨pg_Lattice, hd_Lattice, po_Lattice, sa_Lattice⟩, mk_Lattice := ⟨mk_Lattice, A14, I14, kc_Lattice⟩, n_gram := ngram_Lattice, sf_Lattice := sf_Lattice, kc_Lattice := yc_Lattice, kg_Lattice := yg_Lattice, kt_Lattice := yt_Lattice, km_Lattice := ym_Lattice, ty_Lattice := yt2_Lattice, ic_Lattice := yi_Lattice, ne_Lattice := yn_Lattice, sub_GL := sub_GL, se_L := sX_L, g_MOST := PySem.W.mg_of X G c_MOST, k_MOST := tk_MOST, g_MOST_DIGITS_lattice := PySem.W.mg_of X G c_MOST_DIGITS_lattice, k_MOST_DIGITS_lattice := tk_MOST_DIGITS_lattice, g_MOST_DIGITS_sheet := PySem.W.mg_of X G c_MOST_DIGITS_sheet, k_MOST_DIGITS_sheet := tk_MOST_DIGITS_sheet, g_MOST_LETTERS := PySem.W.mg_of X G c_MOST_LETTERS, k_MOST_LETTERS := tk_MOST_LETTERS, g_MOST_NUMBER := PySem.W.mg_of X G c_MOST_NUMBER, k_MOST_NUMBER := tk_MOST_NUMBER, g_MOST_ROWS := PySem.W.mg_of X G c_MOST_ROWS, k_MOST_ROWS := tk_MOST_ROWS, g_MOST_SIGNS := PySem.W.mg_of X G c_MOST_SIGNS, k_MOST_SIGNS := tk_MOST_SIGNS, g_PERCENT := PySem.W.mg_of X G c_PERCENT, k_PERCENT := tk_PERCENT, t_COMMANDS := t_COMMANDS, g_COMMANDS := PySem.W.mg_of X G aC_tCOMMANDS, q_COMMANDS := fun H => .inr ⟨_, _, _, L_COMMANDS, rfl, rfl, by show 9 ≤ sizeLine; decide, (.cons ⟨_, rfl⟩ (.cons ⟨_, rfl⟩ (.cons ⟨_, rfl⟩ (.cons ⟨_, rfl⟩ (.cons ⟨_, rfl⟩ (.cons ⟨_, rfl⟩ (.cons ⟨_, rfl⟩ (.cons ⟨_, rfl⟩ (.cons ⟨_, rfl⟩ .nil)))))))))⟩, t_NAME_ALONE := t_NAME_ALONE, g_NAME_ALONE := PySem.W.mg_of X G aC_tNAME_ALONE, q_NAME_ALONE := fun H => .inr ⟨_, _, _, L_NAME_ALONE, rfl, rfl, by show 5 ≤ sizeLine; decide, (.cons ⟨_, rfl⟩ (.cons ⟨_, rfl⟩ (.cons ⟨_, rfl⟩ (.cons ⟨_, rfl⟩ (.cons ⟨_, rfl⟩ .nil)))))⟩, z_ValueError := PySem.W.mg_none_of X G z_ValueError, z_abs := PySem.W.mg_none_of X G z_abs, z_all := PySem.W.mg_none_of X G z_all, z_bool := PySem.W.mg_none_of X G z_bool, z_enumerate := PySem.W.mg_none_of X G z_enumerate, z_int := PySem.W.mg_none_of X G z_int, z_isinstance := PySem.W.mg_none_of X G z_isinstance, z_len := PySem.W.mg_none_of X G z_len, z_list := PySem.W.mg_none_of X G z_list, z_max := PySem.W.mg_none_of X G z_max, z_min := PySem.W.mg_none_of X G z_min, z_ord := PySem.W.mg_none_of X G z_ord, z_range := PySem.W.mg_none_of X G z_range, z_str := PySem.W.mg_none_of X G z_str, z_tuple := PySem.W.mg_none_of X G z_tuple, X_Malformed := X_Malformed, gX_Malformed := PySem.W.mg_of X G aX_Malformed, xX_Malformed := xX_Malformed, kX_Malformed := kX_Malformed, bX_Malformed := bX_Malformed, tX_Malformed := tX_Malformed, iX_Malformed := iX_Malformed, sX_Malformed := sX_Malformed, X_NoText := X_NoText, gX_NoText := PySem.W.mg_of X G aX_NoText, kX_NoText := kX_NoText, bX_NoText := bX_NoText, tX_NoText := tX_NoText, iX_NoText := iX_NoText, sX_NoText := sX_NoText, X_Refused := X_Refused, gX_Refused := PySem.W.mg_of X G aX_Refused, kX_Refused := kX_Refused, bX_Refused := bX_Refused, tX_Refused := tX_Refused, iX_Refused := iX_Refused, sX_Refused := sX_Refused, oX_NoText := ⟨⟨_, _, _, _, _, _, _, _, _, _, _, _, _, _, _, lX_NoText, rX_NoText⟩, saX_NoText, bX_NoText, tX_NoText, kX_NoText⟩, nI_NoText := A2, jI_NoText := jI_NoText, nf_NoText := nf_NoText, fX_NoText := ⟨gaX_NoText, ggX_NoText, bX_NoText, hdX_NoText⟩, cX_NoText := iX_NoText, mX_NoText := mX_NoText, hX_NoText := hX_NoText, sub_NoText_Malformed := sub_NoText_Malformed, sub_Malformed_NoText := sub_Malformed_NoText, sub_NoText_Refused := sub_NoText_Refused, sub_Refused_NoText := sub_Refused_NoText, oX_Refused := ⟨⟨_, _, _, _, _, _, _, _, _, _, _, _, _, _, _, lX_Refused, rX_Refused⟩, saX_Refused, bX_Refused, tX_Refused, kX_Refused⟩, nI_Refused := A1, jI_Refused := jI_Refused, nf_Refused := nf_Refused, fX_Refused := ⟨gaX_Refused, ggX_Refused, bX_Refused, hdX_Refused⟩, cX_Refused := iX_Refused, mX_Refused := mX_Refused, hX_Refused := hX_Refused, sub_Refused_Malformed := sub_Refused_Malformed, sub_Malformed_Refused := sub_Malformed_Refused }
  exact ⟨PySem.W.fnOf "law" "law" (defArgs s_law) (defBody s_law) (defScope s_law) .none kV35 dc35 pm35 an35 cd35 ct35, fun s v => .of_eq rfl, fun base _ _ hN => ok_law (w := w) T hN hT⟩
end K50
open PySem PySem.W PyProof.Rows
set_option maxRecDepth 100000 in
set_option maxHeartbeats 16000000 in
theorem PySem.Challenge.cw_gridmetric_k50_lines_read_holds : PySem.Challenge.rw_gridmetric_k50_lines_read.Holds := by
  w_on; o_law; k_head; (case hw => w_witness2)
  k_fill
  refine Gm.walk_ofN (n := 63) (k := 51) (sp := K50.sp_law) (x := "script") rfl (by decide) rfl ⟨rfl, by decide, by decide⟩ (by decide +kernel) (fun w h Y => PySem.W.kIn_of Y) ?F ?S
  case F =>
    intro w mg fa h Y KX G hmg
    refine' K50.all_mk KX G hmg rfl ?A1 ?I1 ?L1 ?D1 ?K1 ?A2 ?I2 ?L2 ?D2 ?K2 ?A3 ?L3 ?D3 ?K3 ?A4 ?L4 ?D4 ?K4 ?A5 ?L5 ?D5 ?K5 ?A6 ?L6 ?D6 ?K6 ?A7 ?I7 ?L7 ?T7 ?D7 ?K7 ?A8 ?I8 ?L8 ?D8 ?K8 ?A9 ?I9 ?L9 ?D9 ?K9 ?A10 ?L10 ?D10 ?K10 ?A11 ?L11 ?D11 ?K11 ?A12 ?L12 ?D12 ?K12 ?A13 ?L13 ?D13 ?K13 ?A14 ?I14 ?L14 ?D14 ?K14 ?A15 ?I15 ?L15 ?D15 ?K15 ?A16 ?I16 ?L16 ?D16 ?K16 ?A17 ?L17 ?D17 ?K17 ?A18 ?L18 ?D18 ?K18 ?A19 ?L19 ?D19 ?K19 ?A20 ?L20 ?D20 ?K20 ?A21 ?L21 ?D21 ?K21 ?A22 ?L22 ?D22 ?K22 ?A23 ?L23 ?D23 ?K23 ?A24 ?L24 ?D24 ?K24 ?A25 ?L25 ?D25 ?K25 ?A26 ?L26 ?D26 ?K26 ?A27 ?L27 ?D27 ?K27 ?A28 ?L28 ?D28 ?K28 ?A29 ?L29 ?D29 ?K29 ?A30 ?L30 ?D30 ?K30 ?A31 ?L31 ?D31 ?K31 ?A32 ?L32 ?D32 ?K32 ?A33 ?L33 ?D33 ?K33 ?A34 ?L34 ?D34 ?K34 ?A35 ?L35 ?D35 ?K35 ?aC_Grid ?pg_Grid ?hd_Grid ?po_Grid ?sa_Grid ?mk_Grid ?kc_Grid ?nrows_Grid ?nwidth_Grid ?sf_Grid ?yc_Grid ?yg_Grid ?yt_Grid ?ym_Grid ?yt2_Grid ?yi_Grid ?yn_Grid ?aC_Lattice ?pg_Lattice ?hd_Lattice ?po_Lattice ?sa_Lattice ?mk_Lattice ?kc_Lattice ?ngram_Lattice ?sf_Lattice ?yc_Lattice ?yg_Lattice ?yt_Lattice ?ym_Lattice ?yt2_Lattice ?yi_Lattice ?yn_Lattice ?sub_GL ?sX_L ?c_MOST ?c_MOST_DIGITS_lattice ?c_MOST_DIGITS_sheet ?c_MOST_LETTERS ?c_MOST_NUMBER ?c_MOST_ROWS ?c_MOST_SIGNS ?c_PERCENT ?aC_tCOMMANDS ?L_COMMANDS ?aC_tNAME_ALONE ?L_NAME_ALONE ?z_ValueError ?z_abs ?z_all ?z_bool ?z_enumerate ?z_int ?z_isinstance ?z_len ?z_list ?z_max ?z_min ?z_ord ?z_range ?z_str ?z_tuple ?aX_Malformed ?xX_Malformed ?kX_Malformed ?bX_Malformed ?tX_Malformed ?iX_Malformed ?sX_Malformed ?aX_NoText ?kX_NoText ?bX_NoText ?tX_NoText ?iX_NoText ?sX_NoText ?aX_Refused ?kX_Refused ?bX_Refused ?tX_Refused ?iX_Refused ?sX_Refused ?lX_NoText ?rX_NoText ?saX_NoText ?jI_NoText ?nf_NoText ?gaX_NoText ?ggX_NoText ?hdX_NoText ?mX_NoText ?hX_NoText ?sub_NoText_Malformed ?sub_Malformed_NoText ?sub_NoText_Refused ?sub_Refused_NoText ?lX_Refused ?rX_Refused ?saX_Refused ?jI_Refused ?nf_Refused ?gaX_Refused ?ggX_Refused ?hdX_Refused ?mX_Refused ?hX_Refused ?sub_Refused_Malformed ?sub_Malformed_Refused
    (case aC_Grid => k_is)
    (case aC_Lattice => k_is)
    (case aC_tCOMMANDS => k_is)
    (case aC_tNAME_ALONE => k_is)
    (case aX_Malformed => k_is)
    (case aX_NoText => k_is)
    (case aX_Refused => k_is)
    (case A1 => k_is)
    (case I1 => k_is)
    (case L1 => k_is)
    (case D1 => k_is)
    (case K1 => k_is)
    (case A2 => k_is)
    (case I2 => k_is)
    (case L2 => k_is)
    (case D2 => k_is)
    (case K2 => k_is)
    (case A3 => k_is)
    (case L3 => k_is)
    (case D3 => k_is)
    (case K3 => k_is)
    (case A4 => k_is)
    (case L4 => k_is)
    (case D4 => k_is)
    (case K4 => k_is)
    (case A5 => k_is)
    (case L5 => k_is)
    (case D5 => k_is)
    (case K5 => k_is)
    (case A6 => k_is)
    (case L6 => k_is)
    (case D6 => k_is)
    (case K6 => k_is)
    (case A7 => k_is)
    (case I7 => k_is)
    (case L7 => k_is)
    (case T7 => k_is)
    (case D7 => k_is)
    (case K7 => k_is)
    (case A8 => k_is)
    (case I8 => k_is)
    (case L8 => k_is)
    (case D8 => k_is)
    (case K8 => k_is)
    (case A9 => k_is)
    (case I9 => k_is)
    (case L9 => k_is)
    (case D9 => k_is)
    (case K9 => k_is)
    (case A10 => k_is)
    (case L10 => k_is)
    (case D10 => k_is)
    (case K10 => k_is)
    (case A11 => k_is)
    (case L11 => k_is)
    (case D11 => k_is)
    (case K11 => k_is)
    (case A12 => k_is)
    (case L12 => k_is)
    (case D12 => k_is)
    (case K12 => k_is)
    (case A13 => k_is)
    (case L13 => k_is)
    (case D13 => k_is)
    (case K13 => k_is)
    (case A14 => k_is)
    (case I14 => k_is)
    (case L14 => k_is)
    (case D14 => k_is)
    (case K14 => k_is)
    (case A15 => k_is)
    (case I15 => k_is)
    (case L15 => k_is)
    (case D15 => k_is)
    (case K15 => k_is)
    (case A16 => k_is)
    (case I16 => k_is)
    (case L16 => k_is)
    (case D16 => k_is)
    (case K16 => k_is)
    (case A17 => k_is)
    (case L17 => k_is)
    (case D17 => k_is)
    (case K17 => k_is)
    (case A18 => k_is)
    (case L18 => k_is)
    (case D18 => k_is)
    (case K18 => k_is)
    (case A19 => k_is)
    (case L19 => k_is)
    (case D19 => k_is)
    (case K19 => k_is)
    (case A20 => k_is)
    (case L20 => k_is)
    (case D20 => k_is)
    (case K20 => k_is)
    (case A21 => k_is)
    (case L21 => k_is)
    (case D21 => k_is)
    (case K21 => k_is)
    (case A22 => k_is)
    (case L22 => k_is)
    (case D22 => k_is)
    (case K22 => k_is)
    (case A23 => k_is)
    (case L23 => k_is)
    (case D23 => k_is)
    (case K23 => k_is)
    (case A24 => k_is)
    (case L24 => k_is)
    (case D24 => k_is)
    (case K24 => k_is)
    (case A25 => k_is)
    (case L25 => k_is)
    (case D25 => k_is)
    (case K25 => k_is)
    (case A26 => k_is)
    (case L26 => k_is)
    (case D26 => k_is)
    (case K26 => k_is)
    (case A27 => k_is)
    (case L27 => k_is)
    (case D27 => k_is)
    (case K27 => k_is)
    (case A28 => k_is)
    (case L28 => k_is)
    (case D28 => k_is)
    (case K28 => k_is)
    (case A29 => k_is)
    (case L29 => k_is)
    (case D29 => k_is)
    (case K29 => k_is)
    (case A30 => k_is)
    (case L30 => k_is)
    (case D30 => k_is)
    (case K30 => k_is)
    (case A31 => k_is)
    (case L31 => k_is)
    (case D31 => k_is)
    (case K31 => k_is)
    (case A32 => k_is)
    (case L32 => k_is)
    (case D32 => k_is)
    (case K32 => k_is)
    (case A33 => k_is)
    (case L33 => k_is)
    (case D33 => k_is)
    (case K33 => k_is)
    (case A34 => k_is)
    (case L34 => k_is)
    (case D34 => k_is)
    (case K34 => k_is)
    (case A35 => k_is)
    (case L35 => k_is)
    (case D35 => k_is)
    (case K35 => k_is)
    (case pg_Grid => k_is)
    (case hd_Grid => k_is)
    (case po_Grid => k_is)
    (case sa_Grid => k_is)
    (case mk_Grid => k_is)
    (case kc_Grid => k_is)
    (case nrows_Grid => k_is)
    (case nwidth_Grid => k_is)
    (case sf_Grid => k_is)
    (case yc_Grid => k_is)
    (case yg_Grid => k_is)
    (case yt_Grid => k_is)
    (case ym_Grid => k_is)
    (case yt2_Grid => k_is)
    (case yi_Grid => k_is)
    (case yn_Grid => k_is)
    (case pg_Lattice => k_is)
    (case hd_Lattice => k_is)
    (case po_Lattice => k_is)
    (case sa_Lattice => k_is)
    (case mk_Lattice => k_is)
    (case kc_Lattice => k_is)
    (case ngram_Lattice => k_is)
    (case sf_Lattice => k_is)
    (case yc_Lattice => k_is)
    (case yg_Lattice => k_is)
    (case yt_Lattice => k_is)
    (case ym_Lattice => k_is)
    (case yt2_Lattice => k_is)
    (case yi_Lattice => k_is)
    (case yn_Lattice => k_is)
    (case sub_GL => k_is)
    (case sX_L => first | rfl | k_is)
    (case c_MOST => k_is)
    (case c_MOST_DIGITS_lattice => k_is)
    (case c_MOST_DIGITS_sheet => k_is)
    (case c_MOST_LETTERS => k_is)
    (case c_MOST_NUMBER => k_is)
    (case c_MOST_ROWS => k_is)
    (case c_MOST_SIGNS => k_is)
    (case c_PERCENT => k_is)
    (case L_COMMANDS => k_is)
    (case L_NAME_ALONE => k_is)
    (case z_ValueError => k_is)
    (case z_abs => k_is)
    (case z_all => k_is)
    (case z_bool => k_is)
    (case z_enumerate => k_is)
    (case z_int => k_is)
    (case z_isinstance => k_is)
    (case z_len => k_is)
    (case z_list => k_is)
    (case z_max => k_is)
    (case z_min => k_is)
    (case z_ord => k_is)
    (case z_range => k_is)
    (case z_str => k_is)
    (case z_tuple => k_is)
    (case xX_Malformed => k_exc)
    (case kX_Malformed => k_is)
    (case bX_Malformed => k_is)
    (case tX_Malformed => k_is)
    (case iX_Malformed => k_is)
    (case sX_Malformed => first | rfl | k_is)
    (case kX_NoText => k_is)
    (case bX_NoText => k_is)
    (case tX_NoText => k_is)
    (case iX_NoText => k_is)
    (case sX_NoText => first | rfl | k_is)
    (case kX_Refused => k_is)
    (case bX_Refused => k_is)
    (case tX_Refused => k_is)
    (case iX_Refused => k_is)
    (case sX_Refused => first | rfl | k_is)
    (case lX_NoText => k_is)
    (case rX_NoText => first | rfl | decide +kernel)
    (case saX_NoText => k_is)
    (case jI_NoText => k_is)
    (case nf_NoText => k_is)
    (case gaX_NoText => k_is)
    (case ggX_NoText => k_is)
    (case hdX_NoText => k_is)
    (case mX_NoText => k_is)
    (case hX_NoText => k_is)
    (case sub_NoText_Malformed => k_is)
    (case sub_Malformed_NoText => k_is)
    (case sub_NoText_Refused => k_is)
    (case sub_Refused_NoText => k_is)
    (case lX_Refused => k_is)
    (case rX_Refused => first | rfl | decide +kernel)
    (case saX_Refused => k_is)
    (case jI_Refused => k_is)
    (case nf_Refused => k_is)
    (case gaX_Refused => k_is)
    (case ggX_Refused => k_is)
    (case hdX_Refused => k_is)
    (case mX_Refused => k_is)
    (case hX_Refused => k_is)
    (case sub_Refused_Malformed => k_is)
    (case sub_Malformed_Refused => k_is)
  case S =>
    intro K H a ns hl hb hs
    exact ⟨a, ns, rfl, hs, hl, hb, fun _ => rfl⟩
