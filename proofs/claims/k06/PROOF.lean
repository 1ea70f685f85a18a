import PyProof.Rows.All
import Wide.All
import OpenK.AllK
import Wide.FinOn
import HandS.WordsExc
import HandS.ForMost
import HandS.Exc
import HandS.TryOnly
import HandS.ExcOwn
import HandS.IsInst
import HandS.Zip
import HandS.Walk
import HandS.Wide
import HandS.WideBits
import HandS.Conv
import HandS.Codes
import HandS.Defaults
import HandS.TupAny
import HandS.Style
import HandS.Gcd
import HandS.EndBits
import HandS.Sort
import HandS.Slots
import HandS.SlotsOwn
import KE.GoesMore
import KE.KOpsOwn
import HandS.HeadEnd
import HandS.More
import PyProof.InstNe
import HandS.TupMul
import KE.KItemsList
import KE.KDictZip
import HandS.IterVal
import KE.KOwnIter
import OpenK.KMeth
import HandS.Base
import HandS.Call
import HandS.ExcIs
import HandS.ExcField
import KE.KExcIs
import HandS.SortKw
import HandS.WordsDict
import HandS.Small
import PySem.Challenge.RW_gridmetric_k06_primitive_matrices
set_option Elab.async false
set_option linter.all false
set_option maxRecDepth 100000
set_option maxHeartbeats 40000000
/-! Further rules over the layer: // by any positive divisor; a range that is a value, walked; enumerate of a tuple; operators of an own class. -/
namespace Gm
open PySem PySem.Spec PyProof.Rows L2
section
variable {X : Cx}
/-! ### // by any positive divisor -/
theorem op_fdivP {env : Env} {l : List Env} (hN : X.base.NoSeer) (hst : X.stack = env :: l) (hgen : env.scope.isGenerator = false) (hco : env.scope.isCoroutine = false) (hb : env.builtins = builtinsNs) (hg : env.globals = mainGlobals)
    (ht : X.prog.given.tree = none) (hd : X.A.depth + 100 < recursionLimit) : OpR X (binaryOp .FloorDiv) (rI (fun _ j => 0 < j) fun i j => .int (i / j)) := by
  intro pn s σ H x y v u Q I rx ry h
  obtain ⟨i, j, rfl, rfl, hCond, q⟩ := h
  obtain ⟨t, rfl⟩ := rx
  obtain ⟨t', rfl⟩ := ry
  have h1 : (0 : Int) < j := hCond
  have hs : SeerAt (model X.prog X.w) X.A s.heap := PySem.SeerAt.of (hN.keeps I.bk) ht (I.ok.frames.trans (congrArg some hst)) hgen hco hb hg
  refine floordiv_int (by omega) ?_ (.inr (PySem.PylongRoom.of I.nolimit hd hs))
  rw [Int.fdiv_eq_ediv_of_nonneg i (by omega)]
  exact ⟨.int (i / j), H, I.tok _, ⟨_, rfl⟩, q⟩
theorem op_fdivQ {env : Env} {l : List Env} (hN : X.base.NoSeer) (hst : X.stack = env :: l) (hgen : env.scope.isGenerator = false) (hco : env.scope.isCoroutine = false) (hb : env.builtins = builtinsNs) (hg : env.globals = mainGlobals)
    (ht : X.prog.given.tree = none) (hd : X.A.depth + 100 < recursionLimit) : OpR X (binaryOp .FloorDiv) (rI (fun _ j => j ≠ 0) fun i j => .int (i.fdiv j)) := by
  intro pn s σ H x y v u Q I rx ry h
  obtain ⟨i, j, rfl, rfl, hCond, q⟩ := h
  obtain ⟨t, rfl⟩ := rx
  obtain ⟨t', rfl⟩ := ry
  have hs : SeerAt (model X.prog X.w) X.A s.heap := PySem.SeerAt.of (hN.keeps I.bk) ht (I.ok.frames.trans (congrArg some hst)) hgen hco hb hg
  refine floordiv_int hCond ?_ (.inr (PySem.PylongRoom.of I.nolimit hd hs))
  exact ⟨.int (i.fdiv j), H, I.tok _, ⟨_, rfl⟩, q⟩
theorem room100 {k : Nat} {A : Around} (hr : Room k A) (hk : 40 ≤ k) : A.depth + 100 < recursionLimit := by
  have := hr.dp
  omega
/-! ### a range as a value, and walked -/
theorem cr_range1 : CallR X (.type "range") (fun vs H Q => ∃ j, vs = [V.int j] ∧ ∀ p, H p = none → Q (.ref p) (upd H p (.rng 0 j))) := by
  intro pn s σ H vs argv Q I r h
  obtain ⟨j, rfl, q⟩ := h
  cases r with
  | cons r rr =>
    cases rr
    obtain ⟨t, rfl⟩ := r
    exact call_range_1 ⟨.ref s.heap.objs.size, upd H s.heap.objs.size (.rng 0 j), I.laid (t' := s.toks + 1 + 1) (fun b o e => Heap.get?_push_of_some _ e) (Nat.le_refl _) ⟨_, _, _, Heap.get?_push_size _ rfl⟩, rfl, q _ (I.hok.fresh (Nat.le_refl _))⟩
def iRv (te : TE) : TI := fun σ H R => te σ H fun v H1 => ∃ a lo hi, v = .ref a ∧ H1 a = some (.rng lo hi) ∧ (-(2 ^ 62) ≤ lo ∧ lo < 2 ^ 62 ∧ -(2 ^ 62) ≤ hi ∧ hi < 2 ^ 62) ∧ R (Itr lo (hi - lo).toNat) H1
theorem pi_rngv {tg e : Expr} {te : TE} (he : PE X e te) : PI X tg e (iRv te) := by
  refine ⟨fun pn s σ H R I h => ?_⟩
  refine thn (he.run pn s σ H _ I h) fun v s1 ⟨x, H1, J1, rel1, post1⟩ => ?_
  obtain ⟨a, lo, hi, ex, ha, ⟨post1, q2, q3, q4⟩, q⟩ := post1
  subst ex
  cases rel1
  obtain ⟨t, u, w, hr⟩ := J1.hok a _ ha
  refine wpAny_pyIter_range (show IsRange s1.heap a lo hi 1 t u w from hr) (small_one post1 q2 q3 q4) ?_
  refine ⟨s1.heap.objs.size, [s1.heap.objs.size], _, _, H1, rfl, J1.kept (t' := s1.toks) fun b o e => Heap.get?_push_of_some _ e, turn_range _ lo (hi - lo).toNat, ?_, fun b hb => ?_, q⟩
  · have eLo : lo + ((0 : Nat) : Int) * 1 = lo := by simp
    have eHi : (((hi - lo).toNat : Nat) : Int) - ((0 : Nat) : Int) = Builtin.Range.rangeSize lo hi 1 := by rw [rangeSize_one]; split <;> omega
    show IsRangeIter _ _ (lo + ((0 : Nat) : Int) * 1) ((((hi - lo).toNat : Nat) : Int) - ((0 : Nat) : Int)) 1
    rw [eLo, eHi]
    exact Heap.get?_push_size _ rfl
  · have e : b = s1.heap.objs.size := by simpa using hb
    subst e
    exact J1.fpOk (Nat.le_refl _) (J1.hok.fresh (Nat.le_refl _))
end
end Gm
namespace Gm
open PySem PySem.Spec PyProof.Rows L2
open AutoSeq1 (wpAny_loadPart')
/-! ### enumerate of a tuple -/
theorem meets_enumerate_newT (l : Addr) (items : Array Value) (n : Nat) (dc : Option Addr) (slo : Array (Option Value)) :
    Meets (Builtin.«enumerate.__new__» ⟨[.type "enumerate", .ref l], []⟩) (fun _ R s => s.heap.get? l = some { cls := .type "tuple", dict := dc, data := .seq items n, slots := slo } ∧
      R (.ok (.ret (.ref (s.heap.push { cls := .type "tuple_iterator", data := .fields #[.ref l, .int 0 0] }).objs.size)))
        { s with heap := (s.heap.push { cls := .type "tuple_iterator", data := .fields #[.ref l, .int 0 0] }).push { cls := .type "enumerate", data := .fields #[.none, .bool false, .ref s.heap.objs.size, rawInt 0, .none, .none] } }) :=
  .of_wp fun prog w A R s h => by
    obtain ⟨heap0, g, d, tk0, os0⟩ := s; obtain ⟨hGet, h⟩ := h
    have hsub := sub_enumerate
    have hL : Heap.IsTuple (Shared.heap ⟨heap0, g, d, tk0, os0⟩) l items := ⟨_, hGet, rfl, n, rfl⟩
    wp_walk using wpAny_loadPart' hGet
    refine wpAny_stack_any fun stt => wpAny_pure ?_
    split
    · rename_i c _ _ _ _ _
      cases (c == Value.type "enumerate")
      · wp_walk using wpAny_loadPart' hGet, wpAny_pyIter_tuple hL
        exact ⟨_, rfl, h⟩
      · wp_walk using wpAny_loadPart' hGet, wpAny_pyIter_tuple hL
        exact ⟨_, rfl, h⟩
    · wp_walk using wpAny_loadPart' hGet, wpAny_pyIter_tuple hL
      exact ⟨_, rfl, h⟩
section
variable {prog : Program} {w : World} {A : Around} {E : Value → Shared → Prop} {s : Shared}
theorem call_enumerate_tuple {l : Addr} {items : Array Value} {Q : Value → Shared → Prop} (hL : s.heap.IsTuple l items)
    (h : ∀ h', IsEnum h' (s.heap.objs.size + 1) s.heap.objs.size 0 .none → h'.IsTupleIter s.heap.objs.size l 0 → h'.objs.size = s.heap.objs.size + 2 →
      (∀ b o, s.heap.get? b = some o → h'.get? b = some o) → Q (.ref (s.heap.objs.size + 1)) { s with heap := h' }) :
    wpAny (model prog w) A (call (.type "enumerate") [.ref l]) Q E s := by
  obtain ⟨⟨c, dc, dd, slo⟩, hGet, hCls, n, hDat⟩ := hL
  replace hCls : c = .type "tuple" := hCls
  replace hDat : dd = .seq items n := hDat
  subst hCls hDat
  refine callType_new F.called_enumerate (by decide) (F.typeCall_enumerate_1 _) (F.newCall_enumerate_1 _) (fun obj => F.args_object_init_2 obj _) F.entry_enumerate_new
    (meets_enumerate_newT l items n dc slo) ⟨hGet, ?_⟩
  have hLen : (s.heap.push { cls := .type "tuple_iterator", data := .fields #[.ref l, .int 0 0] }).objs.size = s.heap.objs.size + 1 := Heap.size_push ..
  show _ ∧ _
  rw [hLen]
  have hEn : IsEnum ((s.heap.push { cls := .type "tuple_iterator", data := .fields #[.ref l, .int 0 0] }).push
      { cls := .type "enumerate", data := .fields #[.none, .bool false, .ref s.heap.objs.size, rawInt 0, .none, .none] }) (s.heap.objs.size + 1) s.heap.objs.size 0 .none := by
    have := Heap.get?_push_size (s.heap.push { cls := .type "tuple_iterator", data := .fields #[.ref l, .int 0 0] })
      (o := { cls := .type "enumerate", data := .fields #[.none, .bool false, .ref s.heap.objs.size, rawInt 0, .none, .none] }) rfl
    rw [hLen] at this; exact this
  refine ⟨⟨_, hEn, rfl⟩, h _ hEn ⟨_, Heap.get?_push_of_some _ (Heap.get?_push_size _ rfl), rfl, rfl⟩ (by rw [Heap.size_push, hLen]) fun b o x => Heap.get?_push_of_some _ (Heap.get?_push_of_some _ x)⟩
end
def IteT (K : PySem.W.Frag) (a : Addr) : It :=
  ⟨fun i H => ∃ (xv : List V) (x : V), SqT K H a xv ∧ xv[i]? = some x, fun i H v H' => ∃ T0 x, v = .ref T0 ∧ H T0 = none ∧ H' = upd H T0 (.tup [.int (i : Nat), x]) ∧ ∀ xv, SqT K H a xv → xv[i]? = some x, fun i H => ∃ xv : List V, SqT K H a xv ∧ xv.length ≤ i⟩
theorem turn_enumT {P : Program} {w : World} {K : PySem.W.Frag} {elts : List Expr} {kk : Nat} {tpos : Pos} (a e it : Addr) (hAi : a ≠ it) :
    Turn P w K (.Tuple elts kk tpos) (IteT K a) [e, it] e (fun i h => (∃ ol, IsEnum h e it ((i : Nat) : Int) ol) ∧ h.IsTupleIter it a i ∧ e ≠ it) where
  mem := by simp
  obj := fun i h stt b hBm => by
    obtain ⟨⟨ol, hEn⟩, ⟨o, ho, hCls, hDat⟩, _⟩ := stt
    have ee : b = e ∨ b = it := by simpa using hBm
    rcases ee with zq | zq
    · rw [zq]; exact ⟨_, hEn, fun v q => nomatch q⟩
    · rw [zq]; exact ⟨o, ho, fun v q => by rw [hDat] at q; cases q⟩
  keep := fun i h h' stt k => let ⟨⟨ol, hEn⟩, hIx, hDif⟩ := stt; ⟨⟨ol, k e (by simp) _ hEn⟩, hIx.at fun o q => k it (by simp) o q, hDif⟩
  item := by
    intro X hP hw hK hCls i pn s σ H E I hFp stt hGo
    subst hP hw hK
    obtain ⟨⟨ol, hEn⟩, hTi, hDif⟩ := stt
    obtain ⟨xv, x, hSq, hXi⟩ := hGo
    obtain ⟨vals, hvals, p, hLen⟩ := I.tuple hSq
    obtain ⟨u, hUi, rUi⟩ := hvals.get hXi
    have lEn : e < s.heap.objs.size := Heap.lt_size hEn
    have lTi : it < s.heap.objs.size := by obtain ⟨_, q, _⟩ := hTi; exact Heap.lt_size q
    have p' : s.heap.IsTuple a vals.toArray := p
    have hae : a ≠ e := by
      intro zq
      subst zq
      obtain ⟨o1, e1, c1, _⟩ := p'
      rw [hEn] at e1
      cases e1
      exact absurd (Value.type.inj c1) (by decide)
    have hLt : i < vals.toArray.size := by
      have := (List.getElem?_eq_some_iff.mp hUi).1
      simpa using this
    refine wpAny_pyNext_enum_itemD (Draws.tuple (prog := X.prog) (w := X.w) (A := X.A.in1) (I.ok.hd hCls) it a hAi vals.toArray) hEn ⟨hTi, p'⟩ hLt hDif (by simp [hDif, Ne.symm hae]) fun x' h' tk0 hP ho st' hTy hSz hKp => ?_
    obtain ⟨hit', p2⟩ := st'
    have hx' : x' = u := by
      have : vals[i]? = some x' := by simpa using hP
      rw [hUi] at this
      exact (Option.some.inj this).symm
    subst hx'
    refine ⟨_, rfl, wpAny_letOwnedTupleGo_enum (s := { s with heap := h', toks := tk0 + 1 }) ho fun h'' he' sBig => ?_⟩
    have hTy2 : h''.get? s.heap.objs.size = some { cls := .type "tuple", data := .seq #[.int i tk0, x'] } := (sBig.2 _ (Nat.ne_of_gt lEn)).trans hTy
    have nw : ObjOk X.prog X.w (upd H s.heap.objs.size (.tup [.int (i : Nat), x])) h'' s.heap.objs.size (.tup [.int (i : Nat), x]) :=
      ⟨by show 2 ≤ sizeLine; decide, [.int i tk0, x'], .cons ⟨_, rfl⟩ (.cons rUi .nil), ⟨_, hTy2, rfl, _, rfl⟩⟩
    have J1 : Inv X pn σ (upd H s.heap.objs.size (.tup [.int (i : Nat), x])) { s with heap := h'', toks := tk0 + 1 } :=
      I.turnedNew (ch := [e, it]) (fun b ob hBm q => (sBig.2 b (fun zq => hBm (by simp [zq]))).trans (hKp b ob (fun zq => hBm (by simp [zq])) (fun zq => hBm (by simp [zq])) q)) hFp (Nat.le_refl _) nw
    refine ⟨.ref s.heap.objs.size, _, J1, rfl, ⟨_, x, rfl, I.hok.fresh (Nat.le_refl _), rfl, fun yv hy => by rw [I.tuple_inj hy hSq]; exact hXi⟩, ⟨⟨x', ?_⟩, hit'.at fun o q => (sBig.2 it (Ne.symm hDif)).trans q, hDif⟩, fun b hBm => ?_⟩
    · have e1 : ((i + 1 : Nat) : Int) = (i : Int) + 1 := by omega
      rw [e1]; exact he'
    · have hBm2 : b < s.heap.objs.size := by
        have ee : b = e ∨ b = it := by simpa using hBm
        rcases ee with zq | zq
        · rw [zq]; exact lEn
        · rw [zq]; exact lTi
      rw [upd_ne (Nat.ne_of_lt hBm2)]
      exact (hFp b hBm).1
  done := by
    intro X hP hw hK hCls i pn s σ H E I hFp stt hGo
    subst hP hw hK
    obtain ⟨⟨ol, hEn⟩, hTi, hDif⟩ := stt
    obtain ⟨xv, hSq, hXi⟩ := hGo
    obtain ⟨vals, hvals, p, hLen⟩ := I.tuple hSq
    obtain ⟨f0, f1, f2, f3, f4, f5⟩ := hFp it (by simp)
    have hGet := hvals.length
    have p' : s.heap.IsTuple a vals.toArray := p
    have hTy : s.TypeIs (.ref e) "enumerate" := ⟨_, hEn, rfl⟩
    unfold pyNext
    refine wpAny_bind (wpAny_attempt (wpAny_callSpecial?_slot (name := Str.ofString "__next__") hTy F.slot_enumerate_next
      (wpAny_call_entry F.slot_enumerate_next hTy F.entry_enumerate_next ?_ (F.args_enumerate_next_1 _))))
    show wpAny _ _ (field (.ref e) 2 >>= _) _ _ _
    refine wpAny_bind (wpAny_field hEn rfl (x := .ref it) rfl ?_)
    refine wpAny_bind (wpAny_nextOf_tuple_end (I.ok.hd hCls) hTi p' (by simp; omega) fun h' x he' hx' => ?_)
    obtain ⟨o, ho, hc'⟩ := hx'
    refine wpAny_bind (wpAny_isInstance (T := "StopIteration") (b := true) ⟨o, ho, hc'⟩ isSubtype_stop ?_)
    exact wpAny_pure ⟨rfl, I.turned (t' := s.toks) (fun b o hBm q => he' b o hBm q) f0 f1 f3 f4 f5⟩
  self := fun A i s Q E stt h => let ⟨⟨_, hEn⟩, _⟩ := stt; wpAny_pyIter_enum hEn h
def iEnumA (K : PySem.W.Frag) (ta : TA) : TI := fun σ H R => ta σ H fun wsv HA => ∃ a xv, wsv = [.ref a] ∧ ((SqL K HA a xv ∧ R (Ite K a) HA) ∨ (SqT K HA a xv ∧ R (IteT K a) HA))
theorem pi_enumA {X : Cx} {e : Expr} {ta : TA} {p pos tpos : Pos} {elts : List Expr} {kk : Nat} (hGo : Gl X "enumerate") (hm : X.mg "enumerate" = none) (ha : PA X [e] ta) (hs : starEach [e] X.env = [(false, eval e X.env)] := by rfl) :
    PI X (.Tuple elts kk tpos) (.Call (.Name "enumerate" p) [e] [] pos) (iEnumA X.K ta) := by
  refine ⟨fun pn s σ H R I h => ?_⟩
  refine Call_ (ld_blt I hGo hm boot_enumerate (PyProof.Rows.callWith_type1 (thn (ha.run pos pn s σ H _ I h) fun argv sA ⟨wsv, HA, J1, rel1, post1⟩ => ?_) hs rfl))
  obtain ⟨a, xv, ex, hSq⟩ := post1
  subst ex
  cases rel1 with
  | cons r rr =>
    cases rr
    cases r
    have hFin : ∀ b ∈ [sA.heap.objs.size + 1, sA.heap.objs.size], sA.heap.objs.size ≤ b := fun b hBm => by
      have ee : b = sA.heap.objs.size + 1 ∨ b = sA.heap.objs.size := by simpa using hBm
      rcases ee with zq | zq
      · rw [zq]; exact Nat.le_add_right _ _
      · rw [zq]; exact Nat.le_refl _
    rcases hSq with ⟨hSq, q⟩ | ⟨hSq, q⟩
    · obtain ⟨vals, hvals, p', hLen⟩ := J1.list hSq
      refine call_enumerate_list p'.isList fun h' hEn hTi hSz hKp => wpAny_pyIter_enum hEn ?_
      have J2 : Inv X pn σ HA { sA with heap := h' } := J1.kept (t' := sA.toks) hKp
      exact ⟨sA.heap.objs.size + 1, [sA.heap.objs.size + 1, sA.heap.objs.size], _, _, HA, rfl, J2, turn_enum a (sA.heap.objs.size + 1) sA.heap.objs.size, ⟨⟨.none, hEn⟩, hTi, Nat.succ_ne_self _⟩, fun b hBm => J1.fpOk (hFin b hBm) (J1.hok.fresh (hFin b hBm)), q⟩
    · obtain ⟨vals, hvals, p', hLen⟩ := J1.tuple hSq
      have hAl : a ≠ sA.heap.objs.size := by
        obtain ⟨o, e, _⟩ := (show sA.heap.IsTuple a vals.toArray from p')
        exact Nat.ne_of_lt (Heap.lt_size e)
      refine call_enumerate_tuple (show sA.heap.IsTuple a vals.toArray from p') fun h' hEn hTi hSz hKp => wpAny_pyIter_enum hEn ?_
      have J2 : Inv X pn σ HA { sA with heap := h' } := J1.kept (t' := sA.toks) hKp
      exact ⟨sA.heap.objs.size + 1, [sA.heap.objs.size + 1, sA.heap.objs.size], _, _, HA, rfl, J2, turn_enumT a (sA.heap.objs.size + 1) sA.heap.objs.size hAl, ⟨⟨.none, hEn⟩, hTi, Nat.succ_ne_self _⟩, fun b hBm => J1.fpOk (hFin b hBm) (J1.hok.fresh (hFin b hBm)), q⟩
theorem walk_enumT {K : PySem.W.Frag} {a : Addr} {xv : List V} : Walk (IteT K a) xv.length (fun H => SqT K H a xv) (YPair (fun i => some (.int (i : Nat))) (fun i => xv[i]?)) := by
  refine ⟨fun i _ hIx q => ⟨xv, xv[i], q, by simp [hIx]⟩, fun _ q => ⟨xv, q, Nat.le_refl _⟩, fun i H v H' _ q y => ?_⟩
  obtain ⟨T0, x, h1, h2, h3, h4⟩ := y
  exact ⟨T0, .int (i : Nat), x, h1, h2, h3, rfl, h4 xv q⟩
theorem walk_zipT {K : PySem.W.Frag} {a b : Addr} {xv yv : List V} {n : Nat} (hn : n = min xv.length yv.length) : Walk (RZ.ItzT K a b) n (fun H => SqT K H a xv ∧ SqT K H b yv) (YPair (fun i => xv[i]?) (fun i => yv[i]?)) := by
  subst hn
  refine ⟨fun i _ hIx q => ?_, fun _ q => ⟨xv, yv, q.1, q.2, by omega⟩, fun i H v H' _ q y => ?_⟩
  · have h1 : i < xv.length := by omega
    have h2 : i < yv.length := by omega
    exact ⟨xv, yv, xv[i], yv[i], q.1, q.2, by simp [h1], by simp [h2]⟩
  · obtain ⟨T0, x, zq, h1, h2, h3, h4, h5⟩ := y
    exact ⟨T0, x, zq, h1, h2, h3, h4 xv q.1, h5 yv q.2⟩
end Gm
namespace Gm
open PySem PySem.Spec PyProof.Rows L2
section
variable {X : Cx} {C f : Addr} {fd : FuncData} {ps : List Str} {CX : CXT} {k : Nat} {sp : Sp} {E : XK}
/-- an instance as the library's words want it -/
theorem inst_of {pn : List (Addr × Obj)} {σ : L2.St} {H : Hp} {s : Shared} {a dx : Addr} {fs : List (Str × V)} (I : Inv X pn σ H s) (ha : H a = some (.ins C dx fs)) : ∃ od, PySem.W.InstAt s.heap a (PySem.W.instObj C dx) C (some od) := by
  obtain ⟨mAt, J, _⟩ := ins_get I.hok ha
  obtain ⟨od, J, _⟩ := J.look
  exact ⟨od, J⟩
/-- a op b, both instances of one own class that defines op -/
def rOwnBin (C : Addr) (sp : Sp) (E : XK) : R2 := fun x y H Q => ∃ a b dx dy fs gs, x = .ref a ∧ y = .ref b ∧ H a = some (.ins C dx fs) ∧ H b = some (.ins C dy gs) ∧ sp [x, y] H Q E
theorem op_ownBin {op : Operator} (hc : PySem.W.selfFirst X.K C = true) (hs : PySem.W.findIn X.K (.ref C) (PySem.dunder op.info.2) = some (some (.ref f))) (hf : PySem.W.isFn X.K (.ref f) = true)
    (F : FnOk X.prog X.w X.K X.mg X.base CX k f fd ps sp) (hr : Room k X.A) (hb : Binds X.K fd ps []) (hx : Passes CX X E) : OpR X (binaryOp op) (rOwnBin C sp E) := by
  intro pn s σ H x y v u Q I rx ry h
  obtain ⟨a, b, dx, dy, fs, gs, rfl, rfl, ha, hb', q⟩ := h
  cases rx
  cases ry
  obtain ⟨od, J⟩ := inst_of I ha
  obtain ⟨od', J'⟩ := inst_of I hb'
  obtain ⟨m, hF⟩ := I.fr
  refine PySem.W.binop_K hF I.ok.mod.kin J J'.type hc hs hf ?_
  refine wpAny_mono (run_fn (us := [.ref a, .ref b]) (vs := [.ref a, .ref b]) F hr hb .nil hx I (.cons rfl (.cons rfl .nil)) q) (fun w s' z => ?_) fun _ _ x => x
  obtain ⟨zR, HR, IR, relZ, postZ⟩ := z
  exact SlX.cmpback relZ ⟨zR, HR, IR, relZ, postZ⟩
/-- a op b compared by an own def -/
def rOwnCmp (K : PySem.W.Frag) (C : Addr) (sp : Sp) (E : XK) : R2 := fun x y H Q => ∃ a b dx dy fs gs, x = .ref a ∧ y = .ref b ∧ H a = some (.ins C dx fs) ∧ H b = some (.ins C dy gs) ∧ sp [x, y] H Q E
theorem op_ownCmp {op : CmpOp} (hop : ∀ a b, compareOp op a b = richCompare op a b) (hs : PySem.W.findIn X.K (.ref C) (cmpInfo op).2.1 = some (some (.ref f))) (hf : PySem.W.isFn X.K (.ref f) = true)
    (F : FnOk X.prog X.w X.K X.mg X.base CX k f fd ps sp) (hr : Room k X.A) (hb : Binds X.K fd ps []) (hx : Passes CX X E) : OpR X (compareOp op) (rOwnCmp X.K C sp E) := by
  intro pn s σ H x y v u Q I rx ry h
  obtain ⟨a, b, dx, dy, fs, gs, rfl, rfl, ha, hb', q⟩ := h
  cases rx
  cases ry
  obtain ⟨od, J⟩ := inst_of I ha
  obtain ⟨od', J'⟩ := inst_of I hb'
  obtain ⟨m, hF⟩ := I.fr
  rw [hop]
  refine PySem.W.cmp_K (op := op) (tb := .ref C) hr.units0 hF I.ok.mod.kin J J'.type (by simp [PySem.W.notFirst]) hs hf ?_
  refine wpAny_mono (run_fn (us := [.ref a, .ref b]) (vs := [.ref a, .ref b]) F hr hb .nil hx I (.cons rfl (.cons rfl .nil)) q) (fun w s' z => ?_) fun _ _ x => x
  obtain ⟨zR, HR, IR, relZ, postZ⟩ := z
  exact SlX.cmpback relZ ⟨zR, HR, IR, relZ, postZ⟩
/-- -a of an own class -/
def rOwnUn (C : Addr) (sp : Sp) (E : XK) : V → Hp → VK → Prop := fun x H Q => ∃ a dx fs, x = .ref a ∧ H a = some (.ins C dx fs) ∧ sp [x] H Q E
theorem un_ownNeg (hs : PySem.W.findIn X.K (.ref C) "__neg__" = some (some (.ref f))) (hf : PySem.W.isFn X.K (.ref f) = true)
    (F : FnOk X.prog X.w X.K X.mg X.base CX k f fd ps sp) (hr : Room k X.A) (hb : Binds X.K fd ps []) (hx : Passes CX X E) : UnR X (unaryOp .USub) (rOwnUn C sp E) := by
  intro pn s σ H x v Q I rx h
  obtain ⟨a, dx, fs, rfl, ha, q⟩ := h
  cases rx
  obtain ⟨od, J⟩ := inst_of I ha
  obtain ⟨m, hF⟩ := I.fr
  exact PySem.W.ksp_neg hF I.ok.mod.kin J hs hf (run_fn (us := [.ref a]) (vs := [.ref a]) F hr hb .nil hx I (.cons rfl .nil) q)
/-- len(a) of an own class -/
def rOwnLen (C : Addr) (sp : Sp) (E : XK) : List V → Hp → VK → Prop := fun xs H Q => ∃ a dx fs, xs = [.ref a] ∧ H a = some (.ins C dx fs) ∧ sp [.ref a] H (fun v HR => ∃ n : Nat, v = .int n ∧ n < 2 ^ 62 ∧ Q (.int n) HR) E
theorem call_ownLen (hs : PySem.W.findIn X.K (.ref C) "__len__" = some (some (.ref f))) (hf : PySem.W.isFn X.K (.ref f) = true)
    (F : FnOk X.prog X.w X.K X.mg X.base CX k f fd ps sp) (hr : Room (k + 1) X.A) (hb : Binds X.K fd ps []) (hx : ∀ (H : Hp) (s : Shared) (e : Value) (s' : Shared), CX X.stack H s E e s' → False) : CallR X (.builtin "len") (rOwnLen C sp E) := by
  intro pn s σ H vs argv Q I r h
  obtain ⟨a, dx, fs, rfl, ha, q⟩ := h
  cases r with
  | cons r rRest =>
    cases rRest
    cases r
    obtain ⟨od, J⟩ := inst_of I ha
    obtain ⟨m, hF⟩ := I.fr
    refine PySem.W.len_K hF I.ok.mod.kin J hs hf ?_
    have hl := F.len _ _ _ _ q
    have relV : Vals [V.ref a] [Value.ref a] := .cons rfl .nil
    refine wpAny_call (codeAny_mono (F.run X.A.in1 X.stack s H ⟨[.ref a], []⟩ [.ref a] [.ref a] _ E hr.in1 I.env0.in1 (by
      have := hb s [.ref a] I.kIn (by simpa using hl)
      simpa using this) relV q) fun r s' hq => ?_)
    cases r with
    | error e => exact (hx _ _ _ _ hq).elim
    | ok fl =>
      cases fl with
      | ret w =>
        obtain ⟨z, HR, IR, relZ, n, ez, hn, ex⟩ := I.after hq
        subst ez
        obtain ⟨t, rfl⟩ := relZ
        exact ⟨⟨by omega, by omega⟩, .int n, HR, IR.tok _, ⟨_, rfl⟩, ex⟩
      | next => exact False.elim hq
      | brk => exact False.elim hq
      | cont => exact False.elim hq
end
/-! ### a method that may raise, what is raised wished for at the caller's slots -/
section
variable {X : Cx} {C f : Addr} {fd : FuncData} {ps : List Str} {CX : CXT} {k : Nat} {sp : Sp} {E : L2.St → XK} {o e : Expr} {es : List Expr} {m : Str} {ta : TE} {t : TA} {pos apos : Pos}
def tMethS (C : Addr) (m : Str) (sp : Sp) (E : L2.St → XK) (ta : TE) (t : TA) : TE := fun σ H Q => ta σ H fun x H1 => ∃ a dx fs, x = .ref a ∧ H1 a = some (.ins C dx fs) ∧ fs.lookup m = none ∧ t σ H1 fun vs H2 => sp (x :: vs) H2 Q (E σ)
theorem pe_methS {pl : Sem Bool} (he : PE X o ta) (c : Cls X.K C) (hm : Meth X.K C m f) (F : FnOk X.prog X.w X.K X.mg X.base CX k f fd ps sp) (hr : Room k X.A) (hb : Binds X.K fd ps []) (hx : ∀ σ, PassesAt CX X σ (E σ)) (ha : PA X (e :: es) t)
    (hStar : starEach (e :: es) X.env = (false, eval e X.env) :: starEach es X.env := by rfl) (hPlain : (backTo pos (starEach es X.env)).any (·.1) = false := by rfl)
    (hEval : eval (.Call (.Attribute o m apos) (e :: es) [] pos) X.env = (do
      let ov ← eval o X.env
      standAt apos.atName
      let (f, first) ← holding [ov] (getMethod ov m pl)
      callWith pos f first (backTo pos (starEach (e :: es) X.env)) (backToKw pos (keywordEach [] X.env))) := by rfl) :
    PE X (.Call (.Attribute o m apos) (e :: es) [] pos) (tMethS C m sp E ta t) := by
  refine ⟨fun pn s σ H Q I h => ?_⟩
  refine PySem.W.methodCall_KW (pl := pl) (thn (he.run pn s σ H _ I h) fun u s1 ⟨x, H1, J1, rx, a, dx, fs, ex, ea, l, q⟩ => ?_) hEval
  subst ex
  obtain rfl : u = Value.ref a := rx
  refine getmeth_ok J1 ea c hm l ?_
  refine PySem.W.callWith_K (first := [.ref a]) (h₀ := X.base) I.ok.mod.kin hm.kp (thn (ha.run pos pn s1 σ H1 _ J1 q) fun argv s2 ⟨vs, H2, J2, r, q2⟩ => ⟨J2.kIn, ?_⟩) hStar hPlain
  exact run_fnS (us := .ref a :: argv) (vs := .ref a :: vs) F hr hb (hx σ) J2 (.cons rfl r) q2
theorem pe_methS0 {pl : Sem Bool} (he : PE X o ta) (c : Cls X.K C) (hm : Meth X.K C m f) (F : FnOk X.prog X.w X.K X.mg X.base CX k f fd ps sp) (hr : Room k X.A) (hb : Binds X.K fd ps []) (hx : ∀ σ, PassesAt CX X σ (E σ))
    (hEval : eval (.Call (.Attribute o m apos) [] [] pos) X.env = (do
      let ov ← eval o X.env
      standAt apos.atName
      let (f, first) ← holding [ov] (getMethod ov m pl)
      callWith pos f first (backTo pos (starEach [] X.env)) (backToKw pos (keywordEach [] X.env))) := by rfl) :
    PE X (.Call (.Attribute o m apos) [] [] pos) (tMethS C m sp E ta tNil) := by
  refine ⟨fun pn s σ H Q I h => ?_⟩
  refine PySem.W.methodCall_KW (pl := pl) (thn (he.run pn s σ H _ I h) fun u s1 ⟨x, H1, J1, rx, a, dx, fs, ex, ea, l, q⟩ => ?_) hEval
  subst ex
  obtain rfl : u = Value.ref a := rx
  refine getmeth_ok J1 ea c hm l ?_
  exact PySem.W.callWith_K0 (first := [.ref a]) J1.kIn hm.kp (run_fnS (us := [.ref a]) (vs := [.ref a]) F hr hb (hx σ) J1 (.cons rfl .nil) q)
end
end Gm
/-! Data in the heap: rows of ints, rows of rows, grids; comprehensions over a walk, their new list told at once. -/
namespace Gm
open PySem PySem.Spec PyProof.Rows L2
abbrev Frag := PySem.W.Frag
/-! ### heaps -/
theorem same_upd {H : Hp} {p : Addr} {o : HO} (h : H p = none) : Same H (upd H p o) := fun b x e => by
  rw [upd_ne (ne_of_none e h)]
  exact e
theorem Same.seqT {K : Frag} {H H' : Hp} {a : Addr} {xs : List V} (e : Same H H') (h : SqT K H a xs) : SqT K H' a xs := by
  rcases h with (h | ⟨o, h⟩) | h
  · exact .inl (.inl (e _ _ h))
  · exact .inl (.inr ⟨o, e _ _ h⟩)
  · exact .inr h
/-- all but D is as it was -/
def Off (D : Addr) (H H' : Hp) : Prop := ∀ b o, b ≠ D → H b = some o → H' b = some o
theorem Same.off {D : Addr} {H H' : Hp} (e : Same H H') : Off D H H' := fun b o _ h => e b o h
theorem Off.upd {D : Addr} {H : Hp} {o : HO} : Off D H (upd H D o) := fun b u n e => by rw [upd_ne n]; exact e
theorem Off.trans {D : Addr} {H H1 H2 : Hp} (a : Off D H H1) (b : Off D H1 H2) : Off D H H2 := fun c o n h => b c o n (a c o n h)
theorem Off.same {D : Addr} {H H1 H2 : Hp} (hD : H D = none) (a : Same H H1) (b : Off D H1 H2) : Same H H2 := fun c o h => b c o (ne_of_none h hD) (a c o h)
/-- a tuple stands through what happens at a list -/
theorem sqT_off {K : Frag} {H H' : Hp} {a D : Addr} {acc xs : List V} (hD : H D = some (.lst acc)) (e : Off D H H') (h : SqT K H a xs) : SqT K H' a xs := by
  rcases h with (h | ⟨o, h⟩) | h
  · exact .inl (.inl (e _ _ (ne_of h hD (by intro z; cases z)) h))
  · exact .inl (.inr ⟨o, e _ _ (ne_of h hD (by intro z; cases z)) h⟩)
  · exact .inr h
/-! ### a list or tuple -/
def Seq (K : Frag) (H : Hp) (a : Addr) (xs : List V) : Prop := SqL K H a xs ∨ SqT K H a xs
theorem Seq.same {K : Frag} {H H' : Hp} {a : Addr} {xs : List V} (e : Same H H') (h : Seq K H a xs) : Seq K H' a xs := h.elim (fun h => .inl (Same.seq e h)) fun h => .inr (Same.seqT e h)
/-! ### rows of ints, rows of rows -/
/-- a tuple of ints -/
def TRow (K : Frag) (H : Hp) (v : V) (ns : List Int) : Prop := ∃ a, v = .ref a ∧ SqT K H a (ns.map V.int)
/-- a list or tuple of ints -/
def IRow (K : Frag) (H : Hp) (v : V) (ns : List Int) : Prop := ∃ a, v = .ref a ∧ Seq K H a (ns.map V.int)
/-- a tuple of tuples of ints -/
def TRows (K : Frag) (H : Hp) (v : V) (m : List (List Int)) : Prop := ∃ a vs, v = .ref a ∧ SqT K H a vs ∧ Paired (TRow K H) vs m
/-- lists or tuples of such -/
def IRows (K : Frag) (H : Hp) (v : V) (m : List (List Int)) : Prop := ∃ a vs, v = .ref a ∧ Seq K H a vs ∧ Paired (IRow K H) vs m
section
variable {K : Frag} {H H' : Hp} {v : V} {ns : List Int} {m : List (List Int)} {D : Addr} {acc : List V}
theorem TRow.same (e : Same H H') (h : TRow K H v ns) : TRow K H' v ns := let ⟨a, x, s⟩ := h; ⟨a, x, Same.seqT e s⟩
theorem TRow.off (hD : H D = some (.lst acc)) (e : Off D H H') (h : TRow K H v ns) : TRow K H' v ns := let ⟨a, x, s⟩ := h; ⟨a, x, sqT_off hD e s⟩
theorem IRow.same (e : Same H H') (h : IRow K H v ns) : IRow K H' v ns := let ⟨a, x, s⟩ := h; ⟨a, x, s.same e⟩
theorem TRow.row (h : TRow K H v ns) : IRow K H v ns := let ⟨a, x, s⟩ := h; ⟨a, x, .inr s⟩
theorem TRows.same (e : Same H H') (h : TRows K H v m) : TRows K H' v m := let ⟨a, vs, x, s, p⟩ := h; ⟨a, vs, x, Same.seqT e s, L2.Paired.mapP p fun _ _ => TRow.same e⟩
theorem TRows.off (hD : H D = some (.lst acc)) (e : Off D H H') (h : TRows K H v m) : TRows K H' v m := let ⟨a, vs, x, s, p⟩ := h; ⟨a, vs, x, sqT_off hD e s, L2.Paired.mapP p fun _ _ => TRow.off hD e⟩
theorem IRows.same (e : Same H H') (h : IRows K H v m) : IRows K H' v m := let ⟨a, vs, x, s, p⟩ := h; ⟨a, vs, x, s.same e, L2.Paired.mapP p fun _ _ => IRow.same e⟩
theorem TRows.rows (h : TRows K H v m) : IRows K H v m := let ⟨a, vs, x, s, p⟩ := h; ⟨a, vs, x, .inr s, L2.Paired.mapP p fun _ _ => TRow.row⟩
end
theorem Paired.getL {α β : Type} {F : α → β → Prop} : ∀ {l₁ : List α} {l₂ : List β} {i : Nat} {b : β}, Paired F l₁ l₂ → l₂[i]? = some b → ∃ a, l₁[i]? = some a ∧ F a b
  | _, _, _, _, .nil, e => by simp at e
  | _, _, 0, _, .cons r _, e => by simp at e; subst e; exact ⟨_, rfl, r⟩
  | _, _, i + 1, b, .cons _ t, e => by
    obtain ⟨u, h1, h2⟩ := Paired.getL (i := i) (b := b) t (by simpa using e)
    exact ⟨u, by simpa using h1, h2⟩
theorem Paired.getR {α β : Type} {F : α → β → Prop} : ∀ {l₁ : List α} {l₂ : List β} {i : Nat} {a : α}, Paired F l₁ l₂ → l₁[i]? = some a → ∃ b, l₂[i]? = some b ∧ F a b
  | _, _, _, _, .nil, e => by simp at e
  | _, _, 0, _, .cons r _, e => by simp at e; subst e; exact ⟨_, rfl, r⟩
  | _, _, i + 1, a, .cons _ t, e => by
    obtain ⟨u, h1, h2⟩ := Paired.getR (i := i) (a := a) t (by simpa using e)
    exact ⟨u, by simpa using h1, h2⟩
theorem Paired.mapR {α β γ : Type} {F : α → β → Prop} {G : α → γ → Prop} (f : β → γ) (h : ∀ a b, F a b → G a (f b)) : ∀ {l₁ : List α} {l₂ : List β}, Paired F l₁ l₂ → Paired G l₁ (l₂.map f)
  | _, _, .nil => .nil
  | _, _, .cons r t => .cons (h _ _ r) (Paired.mapR f h t)
theorem Paired.swap {α β : Type} {F : α → β → Prop} : ∀ {l₁ : List α} {l₂ : List β}, Paired F l₁ l₂ → Paired (fun b a => F a b) l₂ l₁
  | _, _, .nil => .nil
  | _, _, .cons r t => .cons r (Paired.swap t)
/-- ints alone -/
theorem paired_ints : ∀ {vs : List V} {ns : List Int}, Paired (fun v n => v = V.int n) vs ns → vs = ns.map V.int
  | _, _, .nil => rfl
  | _, _, .cons r t => by rw [List.map_cons, ← r, ← paired_ints t]
theorem paired_bls : ∀ {vs : List V} {ns : List Bool}, Paired (fun v n => v = V.bl n) vs ns → vs = ns.map V.bl
  | _, _, .nil => rfl
  | _, _, .cons r t => by rw [List.map_cons, ← r, ← paired_bls t]
theorem ints_get {ns : List Int} {i : Nat} {v : V} (h : (ns.map V.int)[i]? = some v) : ∃ n, ns[i]? = some n ∧ v = .int n := by
  rw [List.getElem?_map] at h
  cases e : ns[i]? with
  | none => rw [e] at h; cases h
  | some n => rw [e] at h; exact ⟨n, rfl, (Option.some.inj h).symm⟩
theorem ints_at {ns : List Int} {i : Nat} {n : Int} (h : ns[i]? = some n) : (ns.map V.int)[i]? = some (.int n) := by
  rw [List.getElem?_map, h]
  rfl
/-! ### walks of a list or tuple: one reading for both -/
/-- R of every walk of the n items told by Y, while a's content stands -/
def Walked (n : Nat) (Y : Nat → Hp → V → Hp → Prop) (as : List Addr) (R : It → Hp → Prop) (H1 : Hp) : Prop := ∀ (J : It) (G : Hp → Prop), Walk J n G Y → (∀ H, (∀ a ∈ as, ∀ o, H1 a = some o → H a = some o) → G H) → R J H1
theorem sqL_at {K : Frag} {H H' : Hp} {a : Addr} {xs : List V} (h : SqL K H a xs) (e : ∀ o, H a = some o → H' a = some o) : SqL K H' a xs := by
  rcases h with (h | ⟨o, h⟩) | h
  · exact .inl (.inl (e _ h))
  · exact .inl (.inr ⟨o, e _ h⟩)
  · exact .inr h
theorem sqT_at {K : Frag} {H H' : Hp} {a : Addr} {xs : List V} (h : SqT K H a xs) (e : ∀ o, H a = some o → H' a = some o) : SqT K H' a xs := by
  rcases h with (h | ⟨o, h⟩) | h
  · exact .inl (.inl (e _ h))
  · exact .inl (.inr ⟨o, e _ h⟩)
  · exact .inr h
section
variable {X : Cx} {tg e e2 : Expr} {te : TE} {ta : TA} {p pos tpos : Pos} {elts : List Expr} {kk : Nat}
def iSeq (K : Frag) (tl : TE) : TI := fun σ H R => tl σ H fun x H1 => ∃ a xs, x = .ref a ∧ Seq K H1 a xs ∧ Walked xs.length (YAt xs) [a] R H1
theorem pi_seq (hl : PE X e te) : PI X tg e (iSeq X.K te) := by
  refine ⟨fun pn s σ H R I h => ?_⟩
  refine thn (hl.run pn s σ H _ I h) fun v s1 ⟨x, H1, J1, rel1, post1⟩ => ?_
  obtain ⟨a, xs, e, hq, q⟩ := post1
  subst e
  cases rel1
  have fin : ∀ b ∈ [s1.heap.objs.size], FpOk X pn H1 b := fun b hb => by
    have e : b = s1.heap.objs.size := by simpa using hb
    subst e
    exact J1.fpOk (Nat.le_refl _) (J1.hok.fresh (Nat.le_refl _))
  rcases hq with hq | hq
  · obtain ⟨vals, hvals, p, hLen⟩ := J1.list hq
    refine wpAny_pyIter_list p.isList ?_
    exact ⟨s1.heap.objs.size, [s1.heap.objs.size], _, _, H1, rfl, J1.kept (t' := s1.toks) fun b o e => Heap.get?_push_of_some _ e, turn_list a _, ⟨_, Heap.get?_push_size _ rfl, rfl, rfl⟩, fin, q _ _ walk_list fun H e => sqL_at hq (e a (by simp))⟩
  · obtain ⟨vals, hvals, p, hLen⟩ := J1.tuple hq
    refine wpAny_pyIter_tuple (show s1.heap.IsTuple a vals.toArray from p) ?_
    exact ⟨s1.heap.objs.size, [s1.heap.objs.size], _, _, H1, rfl, J1.kept (t' := s1.toks) fun b o e => Heap.get?_push_of_some _ e, turn_tuple a _, ⟨_, Heap.get?_push_size _ rfl, rfl, rfl⟩, fin, q _ _ walk_tup fun H e => sqT_at hq (e a (by simp))⟩
def iEnumS (K : Frag) (ta : TA) : TI := fun σ H R => ta σ H fun vs H1 => ∃ a xs, vs = [.ref a] ∧ Seq K H1 a xs ∧ Walked xs.length (YPair (fun i => some (.int (i : Nat))) (fun i => xs[i]?)) [a] R H1
theorem pi_enumS (hg : Gl X "enumerate") (hm : X.mg "enumerate" = none) (ha : PA X [e] ta) (hs : starEach [e] X.env = [(false, eval e X.env)] := by rfl) :
    PI X (.Tuple elts kk tpos) (.Call (.Name "enumerate" p) [e] [] pos) (iEnumS X.K ta) := by
  refine ⟨fun pn s σ H R I h => ?_⟩
  refine Call_ (ld_blt I hg hm boot_enumerate (PyProof.Rows.callWith_type1 (thn (ha.run pos pn s σ H _ I h) fun us s1 ⟨vs, H1, J1, rel1, post1⟩ => ?_) hs rfl))
  obtain ⟨a, xs, ex, hq, q⟩ := post1
  subst ex
  cases rel1 with
  | cons r rr =>
    cases rr
    cases r
    have fin : ∀ b ∈ [s1.heap.objs.size + 1, s1.heap.objs.size], s1.heap.objs.size ≤ b := fun b hb => by
      have ee : b = s1.heap.objs.size + 1 ∨ b = s1.heap.objs.size := by simpa using hb
      rcases ee with z | z
      · rw [z]; exact Nat.le_add_right _ _
      · rw [z]; exact Nat.le_refl _
    rcases hq with hq | hq
    · obtain ⟨vals, hvals, p', hLen⟩ := J1.list hq
      refine call_enumerate_list p'.isList fun h' he hit hSz hk => wpAny_pyIter_enum he ?_
      have J2 : Inv X pn σ H1 { s1 with heap := h' } := J1.kept (t' := s1.toks) hk
      exact ⟨s1.heap.objs.size + 1, [s1.heap.objs.size + 1, s1.heap.objs.size], _, _, H1, rfl, J2, turn_enum a (s1.heap.objs.size + 1) s1.heap.objs.size, ⟨⟨.none, he⟩, hit, Nat.succ_ne_self _⟩, fun b hb => J1.fpOk (fin b hb) (J1.hok.fresh (fin b hb)), q _ _ walk_enum fun H e => sqL_at hq (e a (by simp))⟩
    · obtain ⟨vals, hvals, p', hLen⟩ := J1.tuple hq
      have hal : a ≠ s1.heap.objs.size := by
        obtain ⟨o, e, _⟩ := (show s1.heap.IsTuple a vals.toArray from p')
        exact Nat.ne_of_lt (Heap.lt_size e)
      refine call_enumerate_tuple (show s1.heap.IsTuple a vals.toArray from p') fun h' he hit hSz hk => wpAny_pyIter_enum he ?_
      have J2 : Inv X pn σ H1 { s1 with heap := h' } := J1.kept (t' := s1.toks) hk
      exact ⟨s1.heap.objs.size + 1, [s1.heap.objs.size + 1, s1.heap.objs.size], _, _, H1, rfl, J2, turn_enumT a (s1.heap.objs.size + 1) s1.heap.objs.size hal, ⟨⟨.none, he⟩, hit, Nat.succ_ne_self _⟩, fun b hb => J1.fpOk (fin b hb) (J1.hok.fresh (fin b hb)), q _ _ walk_enumT fun H e => sqT_at hq (e a (by simp))⟩
end
/-! ### comprehensions -/
/-- [e for x in .. if p]: the new list at D holds, for the turns with p, values in the relation Rel -/
theorem lc_gen {J : It} {n : Nat} {G : Hp → Prop} {Y : Nat → Hp → V → Hp → Prop} (w : Walk J n G Y) {g : TG} {tt : TT} {te : TE} {vs : List Nat} {σ : L2.St} {H1 : Hp} {D : Addr} {Qd : Hp → Prop}
    (hD : H1 D = none) (hn : n ≤ 1000) (hG : ∀ H, Same H1 H → G H) (p : Nat → Bool) (Rel : Nat → V → Hp → Prop)
    (mono : ∀ i v H H' acc, H D = some (.lst acc) → Off D H H' → Rel i v H → Rel i v H')
    (step : ∀ (i : Nat) (x : V) (H H' : Hp) (acc : List V) (Ko : VK) (Kn : Hp → Prop), i < n → Same H1 H → H D = some (.lst acc) → Y i H x H' → (p i = true → ∀ y H4, Same H H4 → Rel i y H4 → Ko y H4) → (p i = false → ∀ H3, Same H H3 → Kn H3) →
      g x (wipe σ vs) H' fun σ2 H2 => wipe σ2 vs = wipe σ vs ∧ tt σ2 H2 fun b H3 => if b = true then te σ2 H3 Ko else Kn H3)
    (done : ∀ H l, Same H1 H → H D = some (.lst l) → Paired (fun i v => Rel i v H) ((List.range n).filter p) l → Qd H) :
    ∃ W : Nat → Nat → Hp → Prop, (∃ m, W 0 m (upd H1 D (.lst []))) ∧ ∀ i m H, W i m H →
      (J.stop i H ∧ Qd H) ∨ (J.go i H ∧ ∃ Nx : Hp → Prop, (∀ H', Nx H' → ∃ m', m' < m ∧ W (i + 1) m' H') ∧ ∀ x H', J.yld i H x H' → g x (wipe σ vs) H' fun σ2 H2 => wipe σ2 vs = wipe σ vs ∧ tt σ2 H2 fun b H3 =>
        if b = true then te σ2 H3 fun y H4 => ∃ acc, H4 D = some (.lst acc) ∧ acc.length < sizeLine ∧ Nx (upd H4 D (.lst (acc ++ [y]))) else Nx H3) := by
  refine lc_it w (Pv := fun i H => Same H1 H ∧ ∃ l, H D = some (.lst l) ∧ Paired (fun i v => Rel i v H) ((List.range i).filter p) l) ?_ (fun i H _ h => hG H h.1) ?_ (fun H h => let ⟨s, l, e, q⟩ := h; done H l s e q)
  · exact ⟨same_upd hD, [], upd_same, .nil⟩
  · rintro i x H H' hi ⟨s, l, e, q⟩ y
    have hl : l.length ≤ i := by
      have := q.length
      have h2 : ((List.range i).filter p).length ≤ (List.range i).length := List.length_filter_le _ _
      rw [List.length_range] at h2
      omega
    refine step i x H H' l _ _ hi s e y (fun hp y H4 s4 r => ?_) fun hp H3 s3 => ?_
    · refine ⟨l, s4 _ _ e, small1000 (by omega), fun c o h => ?_, l ++ [y], upd_same, ?_⟩
      · exact Off.upd c o (ne_of_none h hD) (s4 _ _ (s _ _ h))
      · rw [List.range_succ, List.filter_append, List.filter_cons, List.filter_nil, if_pos hp]
        refine Paired.snoc (L2.Paired.mapP q fun j v r => mono j v H _ l e ?_ r) (mono i y H4 _ l (s4 _ _ e) Off.upd r)
        exact Off.trans (Same.off s4) Off.upd
    · refine ⟨fun c o h => s3 _ _ (s _ _ h), l, s3 _ _ e, ?_⟩
      rw [List.range_succ, List.filter_append, List.filter_cons, List.filter_nil, if_neg (by rw [hp]; exact Bool.false_ne_true), List.append_nil]
      exact L2.Paired.mapP q fun j v r => mono j v H _ l e (Same.off s3) r
/-- without a test -/
theorem lc_all {J : It} {n : Nat} {G : Hp → Prop} {Y : Nat → Hp → V → Hp → Prop} (w : Walk J n G Y) {g : TG} {te : TE} {vs : List Nat} {σ : L2.St} {H1 : Hp} {D : Addr} {Qd : Hp → Prop}
    (hD : H1 D = none) (hn : n ≤ 1000) (hG : ∀ H, Same H1 H → G H) (Rel : Nat → V → Hp → Prop)
    (mono : ∀ i v H H' acc, H D = some (.lst acc) → Off D H H' → Rel i v H → Rel i v H')
    (step : ∀ (i : Nat) (x : V) (H H' : Hp) (acc : List V) (Ko : VK), i < n → Same H1 H → H D = some (.lst acc) → Y i H x H' → (∀ y H4, Same H H4 → Rel i y H4 → Ko y H4) →
      g x (wipe σ vs) H' fun σ2 H2 => wipe σ2 vs = wipe σ vs ∧ te σ2 H2 Ko)
    (gm : ∀ x σ1 H (Q Q' : L2.St → Hp → Prop), (∀ σ2 H2, Q σ2 H2 → Q' σ2 H2) → g x σ1 H Q → g x σ1 H Q')
    (done : ∀ H l, Same H1 H → H D = some (.lst l) → Paired (fun i v => Rel i v H) (List.range n) l → Qd H) :
    ∃ W : Nat → Nat → Hp → Prop, (∃ m, W 0 m (upd H1 D (.lst []))) ∧ ∀ i m H, W i m H →
      (J.stop i H ∧ Qd H) ∨ (J.go i H ∧ ∃ Nx : Hp → Prop, (∀ H', Nx H' → ∃ m', m' < m ∧ W (i + 1) m' H') ∧ ∀ x H', J.yld i H x H' → g x (wipe σ vs) H' fun σ2 H2 => wipe σ2 vs = wipe σ vs ∧ tYes σ2 H2 fun b H3 =>
        if b = true then te σ2 H3 fun y H4 => ∃ acc, H4 D = some (.lst acc) ∧ acc.length < sizeLine ∧ Nx (upd H4 D (.lst (acc ++ [y]))) else Nx H3) := by
  refine lc_gen w hD hn hG (fun _ => true) Rel mono (fun i x H H' acc Ko Kn hi s e y k _ => ?_) fun H l s e q => done H l s e (by rw [List.filter_eq_self.mpr (fun _ _ => rfl)] at q; exact q)
  refine gm _ _ _ _ _ (fun σ2 H2 q => ⟨q.1, ?_⟩) (step i x H H' acc Ko hi s e y (k rfl))
  exact (show if true = true then te σ2 H2 Ko else Kn H2 from iteT q.2)
theorem gm_name {j : Nat} : ∀ (x : V) (σ1 : L2.St) (H : Hp) (Q Q' : L2.St → Hp → Prop), (∀ σ2 H2, Q σ2 H2 → Q' σ2 H2) → gName j x σ1 H Q → gName j x σ1 H Q' := fun _ _ _ _ _ h q => h _ _ q
theorem gm_pair {K : Frag} {i j : Nat} : ∀ (x : V) (σ1 : L2.St) (H : Hp) (Q Q' : L2.St → Hp → Prop), (∀ σ2 H2, Q σ2 H2 → Q' σ2 H2) → gTup K 2 (gCons (gName i) (gCons (gName j) gNil)) x σ1 H Q → gTup K 2 (gCons (gName i) (gCons (gName j) gNil)) x σ1 H Q' := by
  rintro x σ1 H Q Q' h ⟨a, xs, e, s, l, v, r, e1, v', r', e2, e3, q⟩
  exact ⟨a, xs, e, s, l, v, r, e1, v', r', e2, e3, h _ _ q⟩
/-- a pair unpacked into two slots -/
theorem g_pair {K : Frag} {i j : Nat} {T : Addr} {x y : V} {σ : L2.St} {H : Hp} {Q : L2.St → Hp → Prop} (hn : H T = none) (q : Q ((σ.set i (some x)).set j (some y)) (upd H T (.tup [x, y]))) : gTup K 2 (gCons (gName i) (gCons (gName j) gNil)) (.ref T) σ (upd H T (.tup [x, y])) Q :=
  ⟨T, [x, y], rfl, .inl (.inl upd_same), rfl, x, [y], rfl, y, [], rfl, rfl, q⟩
/-! ### list or tuple: slices -/
section
variable {X : Cx}
def rSlS (K : Frag) : V → Option Int → Option Int → Hp → VK → Prop := fun x lo hi H Q => rSlL K x lo hi H Q ∨ rSlT K x lo hi H Q
theorem sl_seq : SlR X (rSlS X.K) := sl_list.or sl_tup
end
end Gm
namespace Gm
open PySem PySem.Spec PyProof.Rows L2
theorem rIx_seq {K : Frag} {H : Hp} {a : Addr} {xs : List V} {i : Int} {v : V} {Q : VK} (hs : Seq K H a xs) (e : atI xs i = some v) (q : Q v H) : rIx K (.ref a) (.int i) H Q :=
  hs.elim (fun h => .inl ⟨a, xs, i, v, rfl, rfl, h, e, q⟩) fun h => .inr (.inl ⟨a, xs, i, v, rfl, rfl, h, e, q⟩)
end Gm
namespace Gm
open PySem PySem.Spec PyProof.Rows L2
/-! ### the layer's rules with the written part named (for a comprehension's block) -/
section
variable {X : Cx}
theorem ixS (K : Frag) (hK : X.K = K) : IxR X (rIx K) := by subst hK; exact ix_seq
theorem ixT (K : Frag) (hK : X.K = K) : IxR X (rIxT K) := by subst hK; exact ix_tup
theorem ixL (K : Frag) (hK : X.K = K) : IxR X (rIxL K) := by subst hK; exact ix_list
def rLen (K : Frag) : List V → Hp → VK → Prop := fun xs H Q => ∃ p ys, xs = [.ref p] ∧ Seq K H p ys ∧ Q (.int ys.length) H
theorem lenS (K : Frag) (hK : X.K = K) : CallR X (.builtin "len") (rLen K) := by subst hK; exact call_len_seq
theorem sumK (K : Frag) (hK : X.K = K) (hc : X.calm = true) : CallR X (.builtin "sum") (rSum K) := by subst hK; exact cr_sum hc
theorem allK (K : Frag) (hK : X.K = K) (hc : X.calm = true) : CallR X (.builtin "all") (rAll K) := by subst hK; exact cr_all hc
theorem isiK (K : Frag) (hK : X.K = K) : CallR X (.builtin "isinstance") (rIsi K) := by subst hK; exact call_isi
theorem isiTK (K : Frag) (hK : X.K = K) : CallR X (.builtin "isinstance") (rIsiT K) := by subst hK; exact call_isiT
def rTupleOf (K : Frag) : List V → Hp → VK → Prop := fun xs H Q => ∃ p ys, xs = [.ref p] ∧ ((SqL K H p ys ∧ ∀ l, H l = none → Q (.ref l) (upd H l (.tup ys))) ∨ (SqT K H p ys ∧ Q (.ref p) H))
theorem tupK (K : Frag) (hK : X.K = K) : CallR X (.type "tuple") (rTupleOf K) := by subst hK; exact call_tuple_of
def rListOf (K : Frag) : List V → Hp → VK → Prop := fun xs H Q => ∃ p ys, xs = [.ref p] ∧ Seq K H p ys ∧ ∀ l, H l = none → Q (.ref l) (upd H l (.lst ys))
theorem listK (K : Frag) (hK : X.K = K) : CallR X (.type "list") (rListOf K) := by subst hK; exact call_list_of
theorem catK (K : Frag) (hK : X.K = K) : OpR X (binaryOp .Add) (rCatA K) := by subst hK; exact op_catA
theorem slTK (K : Frag) (hK : X.K = K) : SlR X (rSlA K) := by subst hK; exact sl_tupA
theorem slLK (K : Frag) (hK : X.K = K) : SlR X (rSlL K) := by subst hK; exact sl_list
theorem slSK (K : Frag) (hK : X.K = K) : SlR X (rSlS K) := by subst hK; exact sl_seq
theorem eqDK (K : Frag) (hK : X.K = K) {k : Nat} (hr : Room k X.A) : OpR X (compareOp .Eq) (rEqD K) := by subst hK; exact op_eqD hr.units
theorem neDK (K : Frag) (hK : X.K = K) {k : Nat} (hr : Room k X.A) : OpR X (compareOp .NotEq) (rNeD K) := by subst hK; exact op_neD hr.units
variable {e e2 tg : Expr} {te ta : TE} {f : Str} {p pos tpos : Pos} {elts : List Expr} {kk : Nat} {tas : TA}
theorem fldK (K : Frag) (hK : X.K = K) (he : PE X e ta) (hb : attributeBase e f X.env (eval e X.env) = eval e X.env) : PE X (.Attribute e f pos) (tFld K ta f) := by subst hK; exact pe_fld he hb
theorem piS (K : Frag) (hK : X.K = K) (he : PE X e te) : PI X tg e (iSeq K te) := by subst hK; exact pi_seq he
/-- a tuple alone -/
theorem piEnum (K : Frag) (hK : X.K = K) (hg : Gl X "enumerate") (hm : X.mg "enumerate" = none) (ha : PA X [e] tas) (hs : starEach [e] X.env = [(false, eval e X.env)] := by rfl) :
    PI X (.Tuple elts kk tpos) (.Call (.Name "enumerate" p) [e] [] pos) (iEnumS K tas) := by subst hK; exact pi_enumS hg hm ha hs
def iZipT (K : Frag) (ta : TA) : TI := fun σ H R => ta σ H fun vs H1 => ∃ a b xs ys, vs = [.ref a, .ref b] ∧ SqT K H1 a xs ∧ SqT K H1 b ys ∧ R (RZ.ItzT K a b) H1
theorem piZipT (K : Frag) (hK : X.K = K) (hg : Gl X "zip") (hm : X.mg "zip" = none) (ha : PA X [e, e2] tas)
    (mono : ∀ σ H (Q Q' : List V → Hp → Prop), (∀ vs H, Q vs H → Q' vs H) → tas σ H Q → tas σ H Q')
    (hs : starEach [e, e2] X.env = (false, eval e X.env) :: starEach [e2] X.env := by rfl) (hpl : (backTo pos (starEach [e2] X.env)).any (·.1) = false := by rfl) :
    PI X (.Tuple elts kk tpos) (.Call (.Name "zip" p) [e, e2] [] pos) (iZipT K tas) := by
  subst hK
  refine ⟨fun pn s σ H R I h => (RZ.pi_zipA hg hm ha hs hpl).run pn s σ H R I (mono σ H _ _ (fun vs H1 q => ?_) h)⟩
  obtain ⟨a, b, xs, ys, e, h1, h2, q⟩ := q
  exact ⟨a, b, xs, ys, e, .inr ⟨h1, h2, q⟩⟩
end
end Gm
namespace Gm
open PySem PySem.Spec PyProof.Rows L2
theorem paired_true : ∀ {is : List Nat} {l : List V}, Paired (fun (_ : Nat) v => v = V.bl true) is l → l = (List.replicate l.length true).map V.bl
  | _, _, .nil => rfl
  | _, _, .cons r t => by
    rw [List.length_cons, List.replicate_succ, List.map_cons, ← r, ← paired_true t]
theorem all_true (n : Nat) : (List.replicate n true).all id = true := by
  induction n with
  | zero => rfl
  | succ n ih => rw [List.replicate_succ, List.all_cons, ih] <;> rfl
/-- values in relation with the items of a list, by place -/
theorem paired_at {α : Type} {F : V → α → Prop} {m : List α} : ∀ {n : Nat} {l : List V}, n = m.length → Paired (fun (i : Nat) v => ∃ x, m[i]? = some x ∧ F v x) (List.range n) l → Paired F l m := by
  intro n l hn h
  subst hn
  have key : ∀ (is : List Nat) (l : List V) (xs : List α), Paired (fun (i : Nat) v => ∃ x, m[i]? = some x ∧ F v x) is l → is.map (fun i => m[i]?) = xs.map some → Paired F l xs := by
    intro is l xs h
    induction h generalizing xs with
    | nil =>
      intro e
      cases xs with
      | nil => exact .nil
      | cons a b => cases e
    | cons r t ih =>
      intro e
      cases xs with
      | nil => cases e
      | cons a b =>
        rw [List.map_cons, List.map_cons] at e
        obtain ⟨x, ex, fx⟩ := r
        have e1 := (List.cons.inj e).1
        have e2 := (List.cons.inj e).2
        rw [ex] at e1
        cases e1
        exact .cons fx (ih b e2)
  refine key _ l m h ?_
  apply List.ext_getElem?
  intro i
  rw [List.getElem?_map, List.getElem?_map]
  by_cases hi : i < m.length
  · rw [List.getElem?_range hi, List.getElem?_eq_getElem hi]
    exact congrArg some (List.getElem?_eq_getElem hi)
  · rw [List.getElem?_eq_none (by simpa using hi), List.getElem?_eq_none (by omega)]
    rfl
end Gm
namespace Gm
open PySem PySem.Spec PyProof.Rows L2
section
variable {K : Frag} {H : Hp} {a b : Addr} {xs ys : List V} {Q : VK}
theorem cut_take (xs : List V) (j : Nat) : cutV xs none (some (j : Int)) = xs.take j := by
  unfold cutV
  rw [HT.sIx_none, HT.sIx_nat, List.drop_zero, Nat.sub_zero]
  by_cases h : j ≤ xs.length
  · rw [Nat.min_eq_left h]
  · rw [Nat.min_eq_right (by omega), List.take_length, List.take_of_length_le (by omega)]
theorem cut_drop (xs : List V) (j : Nat) : cutV xs (some (j : Int)) none = xs.drop j := by
  unfold cutV
  rw [HT.sIx_none, HT.sIx_nat]
  by_cases h : j ≤ xs.length
  · rw [Nat.min_eq_left h, List.take_of_length_le (by rw [List.length_drop]; exact Nat.le_refl _)]
  · rw [Nat.min_eq_right (by omega), Nat.sub_self, List.take_zero, List.drop_of_length_le (by omega)]
theorem slA_take (h : SqT K H a xs) (j : Nat) (q : ∀ p H', Same H H' → SqT K H' p (xs.take j) → Q (.ref p) H') : rSlA K (.ref a) none (some (j : Int)) H Q := by
  refine ⟨a, xs, rfl, h, fun e => ?_, fun _ p np => ?_⟩
  · have e2 : min j xs.length = xs.length := by
      have := e.2
      rw [HT.sIx_nat] at this
      exact this
    refine q a H (Same.refl _) ?_
    rw [List.take_of_length_le (by omega)]
    exact h
  · exact q p _ (same_upd np) (.inl (.inl (by rw [upd_same, cut_take])))
theorem slA_drop (h : SqT K H a xs) (j : Nat) (q : ∀ p H', Same H H' → SqT K H' p (xs.drop j) → Q (.ref p) H') : rSlA K (.ref a) (some (j : Int)) none H Q := by
  refine ⟨a, xs, rfl, h, fun e => ?_, fun _ p np => ?_⟩
  · have e2 : min j xs.length = 0 := by
      have := e.1
      rw [HT.sIx_nat] at this
      exact this
    refine q a H (Same.refl _) ?_
    by_cases hj : j = 0
    · rw [hj]
      exact h
    · have : xs = [] := List.eq_nil_of_length_eq_zero (by omega)
      rw [this] at h ⊢
      simpa using h
  · exact q p _ (same_upd np) (.inl (.inl (by rw [upd_same, cut_drop])))
theorem catA (hx : SqT K H a xs) (hy : SqT K H b ys) (hl : xs.length + ys.length ≤ 1000) (q : ∀ p H', Same H H' → SqT K H' p (xs ++ ys) → Q (.ref p) H') : rCatA K (.ref a) (.ref b) H Q := by
  refine ⟨a, b, xs, ys, rfl, rfl, hx, hy, Nat.le_of_lt (small1000 hl), fun e => ?_, fun _ e => ?_, fun _ _ p np => ?_⟩
  · subst e
    exact q b H (Same.refl _) hy
  · subst e
    refine q a H (Same.refl _) ?_
    rw [List.append_nil]
    exact hx
  · exact q p _ (same_upd np) (.inl (.inl upd_same))
end
/-- lists of ints, apart from D: a list of such lists is a matrix -/
theorem lists_rows {K : Frag} {H : Hp} {D : Addr} {l : List V} {m : List (List Int)} {n : Nat} (hn : n = m.length) (e : H D = some (.lst l)) (h : Paired (fun (i : Nat) v => ∃ p, v = V.ref p ∧ p ≠ D ∧ H p = some (.lst ((m.getD i []).map V.int))) (List.range n) l) : IRows K H (.ref D) m := by
  refine ⟨D, l, rfl, .inl (.inl (.inl e)), paired_at (m := m) hn ?_⟩
  have key : ∀ (is : List Nat) (l : List V), (∀ i ∈ is, i < m.length) → Paired (fun (i : Nat) v => ∃ p, v = V.ref p ∧ p ≠ D ∧ H p = some (.lst ((m.getD i []).map V.int))) is l → Paired (fun (i : Nat) v => ∃ x, m[i]? = some x ∧ IRow K H v x) is l := by
    intro is l hi h
    induction h with
    | nil => exact .nil
    | cons r t ih =>
      obtain ⟨p, rfl, _, e⟩ := r
      have h1 := hi _ (List.mem_cons_self ..)
      refine .cons ⟨_, List.getElem?_eq_getElem h1, p, rfl, .inl (.inl (.inl ?_))⟩ (ih fun i h => hi i (List.mem_cons_of_mem _ h))
      rw [List.getD_eq_getElem?_getD, List.getElem?_eq_getElem h1] at e
      exact e
  exact key _ _ (fun i h => by rw [List.mem_range] at h; omega) h
theorem lists_mono {D : Addr} {f : Nat → List Int} (i : Nat) (v : V) (H H' : Hp) (acc : List V) (_ : H D = some (.lst acc)) (o : Off D H H') (h : ∃ p, v = V.ref p ∧ p ≠ D ∧ H p = some (.lst ((f i).map V.int))) : ∃ p, v = V.ref p ∧ p ≠ D ∧ H' p = some (.lst ((f i).map V.int)) :=
  let ⟨p, e, n, h⟩ := h
  ⟨p, e, n, o _ _ n h⟩
/-- ints by place -/
theorem ints_list {l : List V} {ns : List Int} {n : Nat} (hn : n = ns.length) (h : Paired (fun (i : Nat) v => ∃ x, ns[i]? = some x ∧ v = V.int x) (List.range n) l) : l = ns.map V.int := paired_ints (paired_at hn h)
end Gm
namespace Gm
open PySem PySem.Spec PyProof.Rows L2
theorem tyes_of {σ : L2.St} {H : Hp} {q : Hp → Prop} {r : Hp → Prop} (h : q H) : tYes σ H fun b H3 => if b = true then q H3 else r H3 := iteT (A := q H) (B := r H) h
/-- a comprehension whose turns may change other objects: A is kept, the values are told without the heap -/
theorem lc_val {J : It} {n : Nat} {G : Hp → Prop} {Y : Nat → Hp → V → Hp → Prop} (w : Walk J n G Y) {g : TG} {te : TE} {vs : List Nat} {σ : L2.St} {H1 : Hp} {D : Addr} {Qd : Hp → Prop}
    (hn : n ≤ 1000) (A : Hp → Prop) (A0 : A (upd H1 D (.lst []))) (hG : ∀ H, A H → G H) (Au : ∀ H acc acc', A H → H D = some (.lst acc) → A (upd H D (.lst acc'))) (Rel : Nat → V → Prop)
    (step : ∀ (i : Nat) (x : V) (H H' : Hp) (acc : List V) (Ko : VK), i < n → A H → H D = some (.lst acc) → Y i H x H' → (∀ y H4, A H4 → H4 D = some (.lst acc) → Rel i y → Ko y H4) →
      g x (wipe σ vs) H' fun σ2 H2 => wipe σ2 vs = wipe σ vs ∧ te σ2 H2 Ko)
    (gm : ∀ (x : V) (σ1 : L2.St) (H : Hp) (Q Q' : L2.St → Hp → Prop), (∀ σ2 H2, Q σ2 H2 → Q' σ2 H2) → g x σ1 H Q → g x σ1 H Q')
    (done : ∀ H l, A H → H D = some (.lst l) → Paired (fun i v => Rel i v) (List.range n) l → Qd H) :
    ∃ W : Nat → Nat → Hp → Prop, (∃ m, W 0 m (upd H1 D (.lst []))) ∧ ∀ i m H, W i m H →
      (J.stop i H ∧ Qd H) ∨ (J.go i H ∧ ∃ Nx : Hp → Prop, (∀ H', Nx H' → ∃ m', m' < m ∧ W (i + 1) m' H') ∧ ∀ x H', J.yld i H x H' → g x (wipe σ vs) H' fun σ2 H2 => wipe σ2 vs = wipe σ vs ∧ tYes σ2 H2 fun b H3 =>
        if b = true then te σ2 H3 fun y H4 => ∃ acc, H4 D = some (.lst acc) ∧ acc.length < sizeLine ∧ Nx (upd H4 D (.lst (acc ++ [y]))) else Nx H3) := by
  refine lc_it w (Pv := fun i H => A H ∧ ∃ l, H D = some (.lst l) ∧ Paired (fun i v => Rel i v) (List.range i) l) ?_ (fun i H _ h => hG H h.1) ?_ (fun H h => let ⟨s, l, e, q⟩ := h; done H l s e q)
  · exact ⟨A0, [], upd_same, .nil⟩
  · rintro i x H H' hi ⟨a, l, e, q⟩ y
    have hl : l.length = i := by
      have := q.length
      rw [List.length_range] at this
      omega
    refine gm _ _ _ _ _ (fun σ2 H2 q => ⟨q.1, tyes_of q.2⟩) (step i x H H' l _ hi a e y fun y H4 a4 e4 r => ?_)
    refine ⟨l, e4, small1000 (by omega), Au _ _ _ a4 e4, l ++ [y], upd_same, ?_⟩
    rw [List.range_succ]
    exact Paired.snoc q r
theorem ixN_nat {n k : Nat} (h : k < n) : ixN n (k : Int) = some k := by
  unfold ixN
  first
    | simp [h]
    | (split <;> simp_all <;> omega)
    | omega
end Gm
namespace Gm
open PySem PySem.Spec PyProof.Rows L2
theorem vals_small {is : List Nat} {l : List V} {M : Nat} (h : Paired (fun (_ : Nat) v => ∃ z : Int, v = V.int z ∧ z.natAbs ≤ M) is l) : ∃ zs : List Int, l = zs.map V.int ∧ zs.length = is.length ∧ ∀ z ∈ zs, z.natAbs ≤ M := by
  induction h with
  | nil => exact ⟨[], rfl, rfl, fun z hLen => by cases hLen⟩
  | cons r t ih =>
    obtain ⟨z, rfl, hLen⟩ := r
    obtain ⟨zs, rfl, hl, hb⟩ := ih
    exact ⟨z :: zs, rfl, by rw [List.length_cons, List.length_cons, hl], fun y hy => by
      rcases List.mem_cons.mp hy with rfl | hy
      · exact hLen
      · exact hb y hy⟩
theorem paired_set {α β : Type} {F : α → β → Prop} {x : α} {y : β} (r : F x y) : ∀ {xs : List α} {ys : List β} (i : Nat), Paired F xs ys → Paired F (xs.set i x) (ys.set i y)
  | _, _, _, .nil => .nil
  | _, _, 0, .cons _ t => .cons r t
  | _, _, i + 1, .cons q t => .cons q (paired_set r i t)
end Gm
namespace Gm
open PySem PySem.Spec PyProof.Rows L2
theorem piT {X : Cx} {e tg : Expr} {te : TE} (K : Frag) (hK : X.K = K) (he : PE X e te) : PI X tg e (iTup K te) := by subst hK; exact pi_tup he
theorem piL {X : Cx} {e tg : Expr} {te : TE} (K : Frag) (hK : X.K = K) (he : PE X e te) : PI X tg e (iList K te) := by subst hK; exact pi_list he
end Gm
namespace Gm
open PySem PySem.Spec PyProof.Rows L2
theorem slS_drop1 {K : Frag} {H : Hp} {a : Addr} {ws : List V} {Q : VK} (hs : Seq K H a ws) (h0 : 0 < ws.length) (q : ∀ p H', Same H H' → Seq K H' p (ws.drop 1) → Q (.ref p) H') : rSlS K (.ref a) (some 1) none H Q := by
  rcases hs with hs | hs
  · exact .inl ⟨a, ws, rfl, hs, fun p np => q p _ (same_upd np) (.inl (.inl (.inl (by rw [upd_same, show (1 : Int) = ((1 : Nat) : Int) from rfl, cut_drop]))))⟩
  · refine .inr ⟨a, ws, rfl, hs, fun e => ?_, fun p np => q p _ (same_upd np) (.inr (.inl (.inl (by rw [upd_same, show (1 : Int) = ((1 : Nat) : Int) from rfl, cut_drop]))))⟩
    have := e.1
    rw [show (1 : Int) = ((1 : Nat) : Int) from rfl, HT.sIx_nat] at this
    omega
end Gm
/-! The end of a law whose promise wants that nobody looks on (// of any size), with the script's bits. -/
namespace Gm
open PySem PySem.Spec PyProof.Rows L2
section
variable {P : Program} {w : World} {K : PySem.W.Frag} {h : Heap} {a : Addr} {o : Obj} {xs : List V}
/-- the heap in the proof's words: the script alone, if the module doesn't own it -/
def scr (K : PySem.W.Frag) (a : Addr) (o : Obj) (xs : List V) : Hp := fun b => if b = a ∧ K.lookup a = none then some (.frz o (.lst xs)) else none
theorem scr_some {b : Addr} {u : HO} (e : scr K a o xs b = some u) : b = a ∧ K.lookup a = none ∧ u = .frz o (.lst xs) := by
  unfold scr at e
  split at e
  · rename_i hh
    exact ⟨hh.1, hh.2, (Option.some.inj e).symm⟩
  · cases e
theorem scr_only : Only (scr K a o xs) := fun b => by
  cases e : scr K a o xs b with
  | none => exact .inl rfl
  | some u => exact .inr ⟨o, xs, by rw [(scr_some e).2.2]⟩
theorem scr_none {b : Addr} (n : b ≠ a) : scr K a o xs b = none := if_neg fun q => n q.1
variable (ha : h.get? a = some o)
include ha
theorem scr_other {b : Addr} {o' : Obj} (e : h.get? b = some o') (n : o'.cls ≠ o.cls ∨ ∃ es ep, o'.data = .dict es ep ∧ ∀ es ep, o.data ≠ .dict es ep) : scr K a o xs b = none := by
  refine scr_none fun z => ?_
  rw [z, ha] at e
  cases e
  rcases n with n | ⟨es, ep, e1, n⟩
  · exact n rfl
  · exact n es ep e1
theorem scr_ns (hd : ∀ es ep, o.data ≠ .dict es ep) {b : Addr} {m : Str → Option Value} (q : h.Ns b m) : (hidT h (scr K a o xs)).Ns b m := by
  obtain ⟨o', es, ep, e, d, r⟩ := q
  exact ⟨o', es, ep, hidT_get e (scr_other ha e (.inr ⟨es, ep, d, hd⟩)), d, r⟩
theorem scr_in (X : K.In h) : K.In (hidT h (scr K a o xs)) := fun b o' e => hidT_get (X b o' e) (by
  cases q : scr K a o xs b with
  | none => rfl
  | some u =>
    obtain ⟨rfl, n, _⟩ := scr_some q
    rw [n] at e
    cases e)
theorem scr_seer (hd : ∀ es ep, o.data ≠ .dict es ep) (hc : o.cls ≠ .type "module") (x : h.NoSeer) : (hidT h (scr K a o xs)).NoSeer where
  statics := let ⟨mc, q, r⟩ := x.statics; ⟨mc, scr_ns ha hd q, r⟩
  mods := let ⟨mc, q, r⟩ := x.mods; ⟨mc, scr_ns ha hd q, r⟩
  imp := let ⟨mc, q, r⟩ := x.imp; ⟨mc, scr_ns ha hd q, r⟩
  main := let ⟨mg, bm, ob, q, r, e, c, d⟩ := x.main; ⟨mg, bm, ob, scr_ns ha hd q, r, hidT_get e (scr_other ha e (.inl fun z => hc (z.symm.trans c))), c, d⟩
end
theorem law_callN {P : Program} {w : World} {K : PySem.W.Frag} {mg mb : Str → Option Value} {k : Nat} {fa a : Addr} {fd : FuncData} {x : Str} {sp : Sp} {s₁ : Shared} {vs : List Value} {ns : List Int}
    (X : K.In s₁.heap) (hns : s₁.heap.Ns mainGlobals mg) (hb : s₁.heap.Ns builtinsNs mb) (hbb : ∀ x : Str, x ≠ "__name__" → mb x = bootBuiltins x) (hlim : s₁.heap.NoLimit) (hseer : s₁.heap.NoSeer) (hg : s₁.gens = #[])
    (ha : s₁.heap.get? a = some { cls := .type "list", data := .seq vs.toArray }) (hi : IntsAre vs ns) (hl : ns.length ≤ sizeLine) (hr : Room k callerA)
    (F : ∀ base : Heap, K.In base → base.Ns mainGlobals mg → base.NoSeer → FnOk P w K mg base CX0 k fa fd [x] sp) (hbind : ∀ (s : Shared) (u : Value), BindsTo s fd ⟨[u], []⟩ [(x, u)])
    (hsp : ∀ H : Hp, Only H → SqL K H a (ns.map V.int) → sp [.ref a] H (fun v _ => v = .bl true) fun _ _ _ => False) :
    codeAny (model P w) callerA (.call (.ref fa) ⟨[.ref a], []⟩) (fun r s' => r = .ok (.ret (.bool true)) ∧ OldK s₁.heap s'.heap ∧ s'.os = s₁.os ∧ AllBare s'.gens) s₁ := by
  have hd : ∀ es ep, ({ cls := .type "list", data := .seq vs.toArray } : Obj).data ≠ .dict es ep := fun es ep z => by cases z
  have rv := vals_ints hi
  generalize hHdef : scr K a { cls := .type "list", data := .seq vs.toArray } (ns.map V.int) = H
  have hO : Only H := hHdef ▸ scr_only
  have hSq : SqL K H a (ns.map V.int) := by
    cases hk : K.lookup a with
    | none => exact .inl (.inr ⟨_, by rw [← hHdef]; exact if_pos ⟨rfl, hk⟩⟩)
    | some o =>
      have e := X a o hk
      rw [ha] at e
      cases e
      exact .inr ⟨_, vs.toArray, _, hk, rfl, rfl, rfl, by rw [List.size_toArray, hi.length]; exact hl, by simpa using rv⟩
  have hok : HOk P w H s₁.heap := fun b u z => by
    rw [← hHdef] at z
    obtain ⟨rfl, _, rfl⟩ := scr_some z
    exact ⟨ha, by rw [List.length_map]; exact hl, vs, _, rv, ha⟩
  have hIn : K.In (hidT s₁.heap H) := hHdef ▸ scr_in ha X
  have hNs : ∀ {b : Addr} {m : Str → Option Value}, s₁.heap.Ns b m → (hidT s₁.heap H).Ns b m := fun q => hHdef ▸ scr_ns ha hd q
  have hSr : (hidT s₁.heap H).NoSeer := hHdef ▸ scr_seer ha hd (fun z => absurd (Value.type.inj z) (by decide)) hseer
  have e0 : Env0 P w K mg (hidT s₁.heap H) callerA [] s₁ H :=
    ⟨rfl, ⟨hIn, hNs hns, ⟨mb, hNs hb, hbb⟩, let ⟨mc, h1, h2⟩ := hlim; ⟨mc, hNs h1, h2⟩⟩, fun b o e => of_hidT e, Nat.le_of_eq (hidT_size _ _), trivial, (fun b hb => nomatch (show b ∈ ([] : List Addr) from hb)), hok, .of_eq hg⟩
  have main := (F _ hIn (hNs hns) hSr).run callerA [] s₁ H ⟨[.ref a], []⟩ [.ref a] [.ref a] _ _ hr e0 (hbind s₁ (.ref a)) (.cons rfl .nil) (hsp H hO hSq)
  refine codeAny_mono main fun r s' q => ?_
  match r, q with
  | .error e, q => exact q.elim
  | .ok .next, q => exact False.elim q
  | .ok .brk, q => exact False.elim q
  | .ok .cont, q => exact False.elim q
  | .ok (.ret u), q =>
    obtain ⟨v, H', os, bare, un, hok', rr, qv⟩ := q
    cases (show v = .bl true from qv)
    cases (show u = Value.bool true from rr)
    refine ⟨rfl, OldK.of_keep fun b o e => ?_, os, bare⟩
    cases hb' : H b with
    | none => exact un.keep b o e hb' (fun z => nomatch (show b ∈ ([] : List Addr) from z)) (by simp)
    | some u =>
      obtain ⟨ob, l, z⟩ := (hO b).resolve_left (by rw [hb']; simp)
      have e1 := (hok b _ z).1
      rw [e] at e1
      cases e1
      exact (hok' b _ (un.frzs b _ _ z)).1
theorem walk_ofN {l : PySem.W.OpenLaw} {n k : Nat} {q : Program} {loose : List Str} {XP : (Str → Option Value) → Heap → Prop} {YP : World → Heap → Prop} {d : DefRec} {K : Params → PySem.W.Frag} {sp : PySem.W.Frag → Sp} {x : Str}
    (hn : l.most = some n) (hn2 : n ≤ sizeLine) (hdf : d.params.defaults = []) (hr : Room k callerA) (hq : importsNone q = true)
    (hY : ∀ (w : World) (h : Heap), YP w h → (K w.params).In h)
    (F : ∀ (w : World) (mg : Str → Option Value) (fa : Addr) (h : Heap), YP w h → (K w.params).In h → h.Ns mainGlobals mg → mg d.name = some (.ref fa) →
      ∃ fd : FuncData, (∀ (s : Shared) (u : Value), BindsTo s fd ⟨[u], []⟩ [(x, u)]) ∧
        ∀ base : Heap, (K w.params).In base → base.Ns mainGlobals mg → base.NoSeer → FnOk l.prog w (K w.params) mg base CX0 k fa fd [x] (sp (K w.params)))
    (hsp : ∀ (K : PySem.W.Frag) (H : Hp) (a : Addr) (ns : List Int), ns.length ≤ n → (∀ z ∈ ns, Builtin.Int.intBits z ≤ 1048576) → SqL K H a (ns.map V.int) → sp K [.ref a] H (fun v _ => v = .bl true) fun _ _ _ => False) :
    PySem.W.WalkO q loose XP YP l.row.toRowW d [] (fun f vs => PySem.call f vs) := by
  refine Att.attach_callB hn hdf fun w s₀ s₁ mg mb fa o pm cd doc a vs ns G Y ho hd hcd hmg hobj hints hlen hbits hg => ?_
  have X := hY w _ Y
  obtain ⟨fd, hb, hF⟩ := F w mg fa _ Y X G.T.g hmg
  exact law_callN X G.T.g G.T.b G.T.builtins G.T.nolimit (G.T.seer hq) hg hobj hints (Nat.le_trans hlen hn2) hr hF hb fun H _ hS => hsp _ H a ns hlen hbits hS
end Gm
/-! != of an own class that has only its own == -/
namespace Gm
open PySem PySem.Spec PyProof.Rows L2
section
variable {prog : Program} {w : World} {A : Around} {E : Value → Shared → Prop} {s : Shared} {K : PySem.W.Frag} {x y C f : Addr} {ox oy : Obj} {od od' : Option Obj}
/-- the end of the def's call, turned -/
abbrev NotBack (Q : Value → Shared → Prop) : Value → Shared → Prop := fun v s' => ∃ b, v = Value.bool b ∧ Q (.bool (!b)) s'
theorem objNe_body {Q : Fin → Shared → Prop} (X : K.In s.heap) (J : PySem.W.InstAt s.heap x ox C od) (hs : PySem.W.findIn K (.ref C) "__eq__" = some (some (.ref f))) (hf : PySem.W.isFn K (.ref f) = true) (hu : A.units < cLine)
    (h : wpAny (model prog w) A (call (.ref f) [.ref x, .ref y]) (fun v s' => ∃ b, v = Value.bool b ∧ Q (.done (.ret (.bool (!b)))) s') E s) : wpAny (model prog w) A (Builtin.«object.__ne__» ⟨[.ref x, .ref y], []⟩) Q E s := by
  unfold Builtin.«object.__ne__»
  repeat (first
    | with_reducible refine wpAny_cRoomFor hu ?_
    | (refine wpAny_bind (m := callSpecialIfBound? (.ref x) (Str.ofString "__eq__") [.ref y]) (PySem.W.ifBound_K X J hs hf (wpAny_mono h (fun v s' hv => ?_) fun _ _ e => e))
       obtain ⟨b, rfl, hq⟩ := hv
       repeat (first | exact hq | exact wpAny_pure hq | exact wpAny_truthy_bool hq | (refine wpAny_bind (m := truthy (.bool _)) (wpAny_truthy_bool ?_)) | wp_step))
    | wp_step)
theorem objNe_call {Q : Value → Shared → Prop} (X : K.In s.heap) (J : PySem.W.InstAt s.heap x ox C od) (hm : PySem.W.mroIn K C (.type "object") = some true) (hs : PySem.W.findIn K (.ref C) "__eq__" = some (some (.ref f))) (hf : PySem.W.isFn K (.ref f) = true) (hu : A.units + 1 < cLine)
    (h : wpAny (model prog w) A.in1 (call (.ref f) [.ref x, .ref y]) (NotBack Q) E s) : wpAny (model prog w) A (call (.builtin "object.__ne__") [.ref x, .ref y]) Q E s := by
  refine wpAny_call (codeAny_call_builtin F.cmp_object.ne.plain F.cmpEntry_ne (PySem.W.check_slot F.cmpKind_ne F.cmpSplit_ne (J.type.andThen (PySem.W.looks_mroIn X hm)) (F.cmpArgs_ne _ _) ?_))
  exact objNe_body X J hs hf hu h
theorem objNe_bound {args : List Value} {Q : Option Value → Shared → Prop} (X : K.In s.heap) (J : PySem.W.InstAt s.heap x ox C od) (hn : PySem.W.findIn K (.ref C) "__ne__" = some (some (.builtin "object.__ne__")))
    (h : wpAny (model prog w) A (call (.builtin "object.__ne__") (.ref x :: args)) (fun v => Q (some v)) E s) : wpAny (model prog w) A (callSpecialIfBound? (.ref x) "__ne__" args) Q E s := by
  have last : wpAny (model prog w) A (call (.builtin "object.__ne__") ([.ref x] ++ args) >>= fun v => pure (some v)) Q E s := wpAny_bind (wpAny_mono h (fun _ _ z => wpAny_pure z) fun _ _ z => z)
  have bnd := F.cmp_object.ne.bind (.ref x)
  simp only [callSpecialIfBound?, bindSpecialIfBound?]
  refine wpAny_holding (wpAny_bind (wpAny_bind (wpAny_bind (J.type.here ((PySem.W.looks_findIn X hn).here (wpAny_bind (wpAny_askSetting (wpAny_ite ?_))))))))
  split
  · exact wpAny_bind (wpAny_of_eq (F.cmp_object.ne.bind _) (wpAny_pure (by exact last)))
  · exact wpAny_tryCatch (wpAny_bind (wpAny_of_eq (F.cmp_object.ne.bind _) (wpAny_pure (by exact last))))
theorem cmpNe_K {Q : Value → Shared → Prop} (X : K.In s.heap) (J : PySem.W.InstAt s.heap x ox C od) (J' : PySem.W.InstAt s.heap y oy C od') (hm : PySem.W.mroIn K C (.type "object") = some true)
    (hn : PySem.W.findIn K (.ref C) "__ne__" = some (some (.builtin "object.__ne__"))) (hs : PySem.W.findIn K (.ref C) "__eq__" = some (some (.ref f))) (hf : PySem.W.isFn K (.ref f) = true) (hu : A.units + 1 < cLine)
    (h : wpAny (model prog w) A.in1 (call (.ref f) [.ref x, .ref y]) (NotBack Q) E s) : wpAny (model prog w) A (compareOp .NotEq (.ref x) (.ref y)) Q E s := by
  show wpAny (model prog w) A (richCompare .NotEq (.ref x) (.ref y)) Q E s
  have one : wpAny (model prog w) A (tryCompare (.ref x) "__ne__" (.ref y)) (fun r s' => ∃ v, r = some v ∧ Q v s') E s := by
    unfold tryCompare
    refine wpAny_bind (objNe_bound X J hn (objNe_call X J hm hs hf hu (wpAny_mono h (fun v s' hv => ?_) fun _ _ e => e)))
    obtain ⟨b, rfl, hq⟩ := hv
    exact ⟨b, rfl, wpAny_pure ⟨_, rfl, hq⟩⟩
  unfold richCompare
  rw [cmpInfo_NotEq]
  simp only [oneThing_ref]
  refine wpAny_holding (wpAny_bind (wpAny_cRoomFor (by omega) ?_))
  refine wpAny_bind (J.type.here (wpAny_bind (J'.type.here ?_)))
  rw [show (Value.ref C != Value.ref C) = false from by simp]
  simp only [Bool.false_eq_true, if_false]
  refine wpAny_bind (wpAny_pure ?_)
  simp only [Bool.false_eq_true, if_false]
  refine wpAny_bind (wpAny_mono one (fun r s' z => ?_) fun _ _ e => e)
  obtain ⟨v, rfl, hq⟩ := z
  exact wpAny_pure hq
end
section
variable {X : Cx} {C f : Addr} {fd : FuncData} {ps : List Str} {CX : CXT} {k : Nat} {sp : Sp}
/-- a != b, both instances of one own class that defines == (its own def answers True or False) -/
def rOwnNe (C : Addr) (sp : Sp) (E : XK) : R2 := fun x y H Q => ∃ a b dx dy fs gs, x = .ref a ∧ y = .ref b ∧ H a = some (.ins C dx fs) ∧ H b = some (.ins C dy gs) ∧ sp [x, y] H (fun v H' => ∃ t, v = .bl t ∧ Q (.bl (!t)) H') E
theorem op_ownNe {E : XK} (hm : PySem.W.mroIn X.K C (.type "object") = some true) (hn : PySem.W.findIn X.K (.ref C) "__ne__" = some (some (.builtin "object.__ne__"))) (hs : PySem.W.findIn X.K (.ref C) "__eq__" = some (some (.ref f))) (hf : PySem.W.isFn X.K (.ref f) = true)
    (F : FnOk X.prog X.w X.K X.mg X.base CX k f fd ps sp) (hr : Room (k + 1) X.A) (hb : Binds X.K fd ps []) (hx : ∀ (H : Hp) (s : Shared) (e : Value) (s' : Shared), CX X.stack H s E e s' → False) : OpR X (compareOp .NotEq) (rOwnNe C sp E) := by
  intro pn sg σ H x y v u Q I rx ry h
  obtain ⟨a, b, dx, dy, fs, gs, rfl, rfl, ha, hb', q⟩ := h
  cases rx
  cases ry
  obtain ⟨od, J⟩ := inst_of I ha
  obtain ⟨od', J'⟩ := inst_of I hb'
  refine cmpNe_K I.kIn J J' hm hn hs hf (by have := hr.units; omega) ?_
  have hl := F.len _ _ _ _ q
  have rv : Vals [V.ref a, V.ref b] [Value.ref a, Value.ref b] := .cons rfl (.cons rfl .nil)
  refine wpAny_call (codeAny_mono (F.run X.A.in1 X.stack sg H ⟨[.ref a, .ref b], []⟩ [.ref a, .ref b] [.ref a, .ref b] _ E hr.in1 I.env0.in1 (by
    have := hb sg [.ref a, .ref b] I.kIn (by simpa using hl)
    simpa using this) rv q) fun r s' hq => ?_)
  cases r with
  | error e => exact (hx _ _ _ _ hq).elim
  | ok fl =>
    cases fl with
    | ret w =>
      obtain ⟨z, H', I', rz, t, ez, ex⟩ := I.after hq
      subst ez
      cases (show w = Value.bool t from rz)
      exact ⟨t, rfl, .bl (!t), H', I', rfl, ex⟩
    | next => exact False.elim hq
    | brk => exact False.elim hq
    | cont => exact False.elim hq
end
end Gm
/-! A tuple times 0, 1 or more. -/
namespace Gm
open PySem PySem.Spec PyProof.Rows L2
theorem mul_one_tup (l : Addr) (items : Array Value) (n : Nat) (dd : Option Addr) (sl : Array (Option Value)) (u : Tok) :
    Meets (Builtin.«tuple.__mul__» ⟨[.ref l, .int 1 u], []⟩) (fun _ R s => s.heap.get? l = some { cls := .type "tuple", dict := dd, data := .seq items n, slots := sl } ∧ R (.ok (.ret (Value.ref l))) s) :=
  .of_wp fun prog w A R s h => by
    obtain ⟨h0, g, d, tk, os⟩ := s
    obtain ⟨hGet, h⟩ := h
    have f1 := AutoSeq1.idx_int
    have c0 : (decide ((1 : Int) < -(2 ^ 63)) || decide ((1 : Int) ≥ 2 ^ 63)) = false := by decide
    have c1 : (items.isEmpty || (1 : Int) == 1) = true := by simp
    wp_walk using AutoSeq1.wpAny_loadPart' hGet
    repeat (first
      | (refine wpAny_ite_false (decide_eq_false (by rw [c0]; exact Bool.false_ne_true)) ?_; wp_walk using AutoSeq1.wpAny_loadPart' hGet)
      | (refine wpAny_ite_true (decide_eq_true (by rw [c1])) ?_; wp_walk using AutoSeq1.wpAny_loadPart' hGet))
    exact ⟨_, rfl, h⟩
theorem mul_zero_tup (l : Addr) (items : Array Value) (n : Nat) (dd : Option Addr) (sl : Array (Option Value)) (u : Tok) (hi : items.isEmpty = false) :
    Meets (Builtin.«tuple.__mul__» ⟨[.ref l, .int 0 u], []⟩) (fun _ R s => s.heap.get? l = some { cls := .type "tuple", dict := dd, data := .seq items n, slots := sl } ∧
      R (.ok (.ret (Value.ref s.heap.objs.size))) { s with heap := s.heap.push { cls := Value.type "tuple", data := Data.seq #[] }, toks := s.toks }) :=
  .of_wp fun prog w A R s h => by
    obtain ⟨h0, g, d, tk, os⟩ := s
    obtain ⟨hGet, h⟩ := h
    have f1 := AutoSeq1.idx_int
    have c0 : (decide ((0 : Int) < -(2 ^ 63)) || decide ((0 : Int) ≥ 2 ^ 63)) = false := by decide
    have c1 : (items.isEmpty || (0 : Int) == 1) = false := by rw [hi]; decide
    have c2 : (decide ((0 : Int) ≤ 0) || items.isEmpty) = true := by simp
    wp_walk using AutoSeq1.wpAny_loadPart' hGet
    repeat (first
      | (refine wpAny_ite_false (decide_eq_false (by rw [c0]; exact Bool.false_ne_true)) ?_; wp_walk using AutoSeq1.wpAny_loadPart' hGet)
      | (refine wpAny_ite_false (decide_eq_false (by rw [c1]; exact Bool.false_ne_true)) ?_; wp_walk using AutoSeq1.wpAny_loadPart' hGet)
      | (refine wpAny_ite_true (decide_eq_true (by rw [c2])) ?_; wp_walk using AutoSeq1.wpAny_loadPart' hGet))
    exact ⟨_, rfl, h⟩
/-- xs * k for a tuple that is not empty, k from 0 on -/
def rRepA (K : Frag) : R2 := fun x y H Q => ∃ l k xs, x = .ref l ∧ y = .int k ∧ SqT K H l xs ∧ xs ≠ [] ∧ 0 ≤ k ∧ k ≤ 1000 ∧ xs.length ≤ 1000 ∧ (k = 1 → Q (.ref l) H) ∧ (k ≠ 1 → ∀ p, H p = none → Q (.ref p) (upd H p (.tup (List.replicate k.toNat xs).flatten)))
section
variable {X : Cx}
theorem op_repA : OpR X (binaryOp .Mult) (rRepA X.K) := by
  intro pn sh σ H x y v u Q I rx ry h
  obtain ⟨l, k, xs, rfl, rfl, hT, hne, h1, h2, hz, q1, q2⟩ := h
  by_cases k2 : 2 ≤ k
  · exact op_repT pn sh σ H _ _ _ _ Q I rx ry ⟨l, k, xs, rfl, rfl, hT, hne, k2, h2, hz, q2 (by omega)⟩
  cases rx
  obtain ⟨t, rfl⟩ := ry
  obtain ⟨vals, r, ⟨⟨cls, dd, data, sl⟩, ho, hc, n, hd⟩, hs⟩ := I.tuple hT
  simp only at hc hd
  subst hc hd
  have hi : vals.toArray.isEmpty = false := by
    cases vals with
    | nil => exact absurd (List.eq_nil_of_length_eq_zero r.length) hne
    | cons a b => rfl
  by_cases k1 : k = 1
  · subst k1
    refine wpAny_binaryOp_repeat_ref (T := "tuple") (U := "int") (by decide) ⟨_, ho, rfl⟩ (fun s' => typeIs_int s' 1 t) noFill_tuple_mul F.fills_int_mul F.slot_int_rmul repeat_tuple F.slot_int_index.lookup
      (call_meets F.slot_int_rmul (typeIs_int sh 1 t) F.entry_int_rmul (F.args_int_rmul_2 _ _) (int_rmul_tuple 1 t l vals.toArray n dd sl)
        ⟨ho, rfl, ⟨_, ho, rfl⟩, call_meets F.slot_tuple_mul ⟨_, ho, rfl⟩ F.entry_tuple_mul (F.args_tuple_mul_2 _ _) (mul_one_tup l vals.toArray n dd sl t) ⟨ho, ?_⟩⟩)
    exact ⟨.ref l, H, I, rfl, q1 rfl⟩
  · obtain rfl : k = 0 := by omega
    refine wpAny_binaryOp_repeat_ref (T := "tuple") (U := "int") (by decide) ⟨_, ho, rfl⟩ (fun s' => typeIs_int s' 0 t) noFill_tuple_mul F.fills_int_mul F.slot_int_rmul repeat_tuple F.slot_int_index.lookup
      (call_meets F.slot_int_rmul (typeIs_int sh 0 t) F.entry_int_rmul (F.args_int_rmul_2 _ _) (int_rmul_tuple 0 t l vals.toArray n dd sl)
        ⟨ho, rfl, ⟨_, ho, rfl⟩, call_meets F.slot_tuple_mul ⟨_, ho, rfl⟩ F.entry_tuple_mul (F.args_tuple_mul_2 _ _) (mul_zero_tup l vals.toArray n dd sl t hi) ⟨ho, ?_⟩⟩)
    have q := q2 (by decide) sh.heap.objs.size (I.hok.fresh (Nat.le_refl _))
    refine ⟨.ref sh.heap.objs.size, _, I.laid (t' := sh.toks) (o := .tup []) (fun b ob q => Heap.get?_push_of_some _ q) (Nat.le_refl _) ⟨Nat.zero_le _, [], .nil, IsTup.new _ _⟩, rfl, q⟩
theorem repAK (K : Frag) (hK : X.K = K) : OpR X (binaryOp .Mult) (rRepA K) := by subst hK; exact op_repA
end
end Gm
/-! Making an object, and an own operator, that may raise: what is raised is wished for at the caller's slots. -/
namespace Gm
open PySem PySem.Spec PyProof.Rows L2
section
variable {X : Cx} {C f : Addr} {fd : FuncData} {ps : List Str} {CX : CXT} {k : Nat} {sp : Sp} {E : L2.St → XK} {x : Str} {p pos : Pos} {e : Expr} {es : List Expr} {t : TA} {dvs : List V} {ds : List Value}
def tMakeS (C : Addr) (sp : Sp) (dvs : List V) (E : L2.St → XK) (t : TA) : TE := fun σ H Q => t σ H fun vs H1 => ∀ x dx, H1 x = none → H1 dx = none → dx ≠ x → sp (.ref x :: (vs ++ dvs)) (upd (upd H1 dx (.own x)) x (.ins C dx [])) (fun v H2 => v = .non ∧ Q (.ref x) H2) (E σ)
theorem pe_makeS (M : Mk X.K C f) (F : FnOk X.prog X.w X.K X.mg X.base CX k f fd ps sp) (hr : Room (k + 1) X.A) (hg : Gl X x) (hm : X.mg x = some (.ref C)) (hb : Binds X.K fd ps ds) (hd : Vals dvs ds) (hx : ∀ σ, PassesAt CX X σ (E σ))
    (ha : PA X (e :: es) t) (hdb : (x == ("__debug__" : Str)) = false := by decide) (he : starEach (e :: es) X.env = (false, eval e X.env) :: starEach es X.env := by rfl) (hpl : (backTo pos (starEach es X.env)).any (·.1) = false := by rfl) :
    PE X (.Call (.Name x p) (e :: es) [] pos) (tMakeS C sp dvs E t) := by
  refine ⟨fun pn sh σ H Q I h => ?_⟩
  refine wpAny_Call_Name_kw (ld_glob I hg hm ?_ hdb)
  refine PySem.W.callWith_K (h₀ := X.base) I.ok.mod.kin M.kp (thn (ha.run pos pn sh σ H _ I h) fun argv sA ⟨vs, H1, J, rel, q⟩ => ⟨J.kIn, ?_⟩) he hpl
  have q0 := q (sA.heap.objs.size + 1) sA.heap.objs.size (J.hok.fresh (Nat.le_succ _)) (J.hok.fresh (Nat.le_refl _)) (Nat.ne_of_lt (Nat.lt_succ_self _))
  have J2 := Inv.made (C := C) J
  have rel2 : Vals (V.ref (sA.heap.objs.size + 1) :: (vs ++ dvs)) (Value.ref (sA.heap.objs.size + 1) :: (argv ++ ds)) := .cons rfl (rel.append hd)
  have hl : (Value.ref (sA.heap.objs.size + 1) :: argv ++ ds).length = ps.length := by
    have el := rel2.length
    rw [F.len _ _ _ _ q0] at el
    exact el.symm
  have main := F.run _ X.stack _ _ ⟨Value.ref (sA.heap.objs.size + 1) :: argv, []⟩ (Value.ref (sA.heap.objs.size + 1) :: (argv ++ ds)) _ _ (E σ) (hr.make C argv []) (J2.env0.make C argv []) (hb _ (Value.ref (sA.heap.objs.size + 1) :: argv) J2.kIn hl) rel2 q0
  refine wpAny_call (make_map (f := f) J.kIn M.makes M.init (beq_iff_eq.mp M.fn) (codeAny_mono main fun r s' z => ?_))
  match r, z with
  | .error er, z => exact hx σ pn _ _ er s' J2 z
  | .ok (.ret u), z =>
    obtain ⟨v, H', J3, rv, ev, q3⟩ := J2.after z
    subst ev
    exact ⟨rv, ⟨V.ref (sA.heap.objs.size + 1), H', J3, rfl, q3⟩⟩
  | .ok .next, z => exact False.elim z
  | .ok .brk, z => exact False.elim z
  | .ok .cont, z => exact False.elim z
end
section
variable {X : Cx} {C f : Addr} {fd : FuncData} {ps : List Str} {CX : CXT} {k : Nat} {sp : Sp} {E : L2.St → XK} {a b : Expr} {ta tb : TE} {pos : Pos}
/-- a op b of one own class, where the def may raise -/
def tOpS (C : Addr) (sp : Sp) (E : L2.St → XK) (ta tb : TE) : TE := fun σ H Q => ta σ H fun x H1 => tb σ H1 fun y H2 => ∃ c d dx dy fs gs, x = .ref c ∧ y = .ref d ∧ H2 c = some (.ins C dx fs) ∧ H2 d = some (.ins C dy gs) ∧ sp [x, y] H2 Q (E σ)
theorem pe_opS {op : Operator} (hc : PySem.W.selfFirst X.K C = true) (hs : PySem.W.findIn X.K (.ref C) (PySem.dunder op.info.2) = some (some (.ref f))) (hf : PySem.W.isFn X.K (.ref f) = true)
    (F : FnOk X.prog X.w X.K X.mg X.base CX k f fd ps sp) (hr : Room k X.A) (hb : Binds X.K fd ps []) (hx : ∀ σ, PassesAt CX X σ (E σ)) (ha : PE X a ta) (hb' : PE X b tb) : PE X (.BinOp a op b pos) (tOpS C sp E ta tb) := by
  refine ⟨fun pn sh σ H Q I h => ?_⟩
  refine wpAny_BinOp (binT ha hb' I h fun v u s2 x y H2 I2 rx ry q => ?_)
  obtain ⟨c, d, dx, dy, fs, gs, rfl, rfl, hc1, hd1, q⟩ := q
  cases rx
  cases ry
  obtain ⟨od, J⟩ := inst_of I2 hc1
  obtain ⟨od', J'⟩ := inst_of I2 hd1
  obtain ⟨m, hF⟩ := I2.fr
  refine PySem.W.binop_K hF I2.ok.mod.kin J J'.type hc hs hf ?_
  refine wpAny_mono (run_fnS (us := [.ref c, .ref d]) (vs := [.ref c, .ref d]) F hr hb (hx σ) I2 (.cons rfl (.cons rfl .nil)) q) (fun w s' z => ?_) fun _ _ z => z
  obtain ⟨zR, HR, IR, relZ, postZ⟩ := z
  exact SlX.cmpback relZ ⟨zR, HR, IR, relZ, postZ⟩
end
end Gm
/-! list(zip(xs, ys)) of two tuples. -/
namespace Gm
open PySem PySem.Spec PyProof.Rows L2 RZ
abbrev ZipF (h : Heap) (z TI TO T0 : Addr) (f : Bool) : Prop :=
  h.get? z = some { cls := .type "zip", dict := none, data := .fields #[rawInt T0, .bool f, .bool false, .ref TI, .ref TO], slots := #[] }
section
variable {prog : Program} {w : World} {A : Around} {E : Value → Shared → Prop} {s : Shared}
theorem zip_busy {z TI TO T0 : Addr} {f : Bool} {oT : Obj} {Q : Bool → Shared → Prop} (hz : ZipF s.heap z TI TO T0 f) (hT : s.heap.get? T0 = some oT)
    (q : ∀ h', ZipF h' z TI TO T0 true → Heap.SameBut z s.heap h' → Q false { s with heap := h' }) : wpAny (model prog w) A (Builtin.SmallTypes.ownedTupleIsFree (.ref z)) Q E s := by
  unfold Builtin.SmallTypes.ownedTupleIsFree
  refine wpAny_bind (wpAny_field hz rfl (x := rawInt T0) rfl ?_)
  show wpAny _ _ (loadIfAlive ((T0 : Int)).toNat >>= _) _ _ _
  rw [Int.toNat_natCast]
  refine wpAny_bind (PySem.W.kdx_alive hT ?_)
  simp only [Option.isNone_some, Bool.false_eq_true, if_false]
  refine wpAny_bind (wpAny_field hz rfl (x := .bool f) rfl ?_)
  cases f with
  | false =>
    rw [if_pos (by decide)]
    refine wpAny_bind (wpAny_setField_rec hz (by simp) fun h1 hz1 hs1 => wpAny_pure (q h1 hz1 hs1))
  | true =>
    rw [if_neg (by decide)]
    exact wpAny_pure (q s.heap hz ⟨rfl, fun _ _ => rfl⟩)
theorem zipT_busy_item {z TI TO T0 i1 i2 l1 l2 : Addr} {f : Bool} {oT : Obj} {k1 k2 : Nat} {xs ys : Array Value} {x y : Value} {Q : Value → Shared → Prop} (D : ZipApart z TI TO i1 i2 l1 l2)
    (hz : ZipF s.heap z TI TO T0 f) (hT : s.heap.get? T0 = some oT) (hTI : IsPair s.heap TI (.ref i1) (.ref i2))
    (h1 : s.heap.IsTupleIter i1 l1 k1) (h2 : s.heap.IsTupleIter i2 l2 k2) (hl1 : s.heap.IsTuple l1 xs) (hl2 : s.heap.IsTuple l2 ys) (hx : xs[k1]? = some x) (hy : ys[k2]? = some y)
    (hQ : ∀ h', ZipF h' z TI TO T0 true → h'.IsTupleIter i1 l1 (k1 + 1) → h'.IsTupleIter i2 l2 (k2 + 1) → IsPair h' s.heap.objs.size x y → h'.objs.size = s.heap.objs.size + 1 →
      (∀ c o, c ≠ z → c ≠ i1 → c ≠ i2 → s.heap.get? c = some o → h'.get? c = some o) → Q (.ref s.heap.objs.size) { s with heap := h' }) :
    wpAny (model prog w) A (Builtin.«zip.__next__» ⟨[.ref z], []⟩) (fun fin s' => ∃ v, fin = .done (.ret v) ∧ Q v s') E s := by
  show wpAny _ _ (field (.ref z) 2 >>= _) _ _ _
  refine wpAny_bind (wpAny_field hz rfl (x := .bool false) rfl ?_)
  show wpAny _ _ (field (.ref z) 3 >>= _) _ _ _
  refine wpAny_bind (wpAny_field hz rfl (x := .ref TI) rfl ?_)
  refine wpAny_bind (wpAny_seqItems hTI rfl ?_)
  show wpAny _ _ (Builtin.SmallTypes.ownedTupleIsFree (.ref z) >>= _) _ _ _
  refine wpAny_bind (zip_busy hz hT fun g1 hz1 hs1 => ?_)
  simp only [Bool.false_eq_true, if_false]
  refine wpAny_bind ?_
  rw [← Array.forIn_toList]
  simp only [List.forIn_cons, List.forIn_nil]
  refine wpAny_bind (wpAny_bind (wpAny_holding ?_))
  show wpAny _ _ (Builtin.SmallTypes.nextOf (.ref i1) >>= _) _ _ _
  refine wpAny_bind (nextOf_tuple_item (h1.extBut hs1.extBut D.i1z) (hl1.extBut hs1.extBut D.l1z) hx fun g2 h12 hs2 => wpAny_pure ?_)
  refine wpAny_pure ?_
  dsimp only
  refine wpAny_bind (wpAny_bind (wpAny_holding ?_))
  show wpAny _ _ (Builtin.SmallTypes.nextOf (.ref i2) >>= _) _ _ _
  refine wpAny_bind (nextOf_tuple_item ((h2.extBut hs1.extBut D.i2z).extBut hs2.extBut D.i12.symm) ((hl2.extBut hs1.extBut D.l2z).extBut hs2.extBut D.l2i1) hy fun g3 h23 hs3 => wpAny_pure ?_)
  refine wpAny_pure ?_
  dsimp only
  refine wpAny_pure ?_
  dsimp only
  refine wpAny_bind (wpAny_newTuple ?_ (by show 2 ≤ sizeLine; decide))
  have hsz : g3.objs.size = s.heap.objs.size := by rw [hs3.1, hs2.1, hs1.1]
  have hz3 : ZipF g3 z TI TO T0 true := hs3.extBut _ _ D.i2z.symm (hs2.extBut _ _ D.i1z.symm hz1)
  have hk3 : ∀ c o, c ≠ z → c ≠ i1 → c ≠ i2 → s.heap.get? c = some o → g3.get? c = some o := fun c o c1 c2 c3 e => hs3.extBut _ _ c3 (hs2.extBut _ _ c2 (hs1.extBut _ _ c1 e))
  have h13 : g3.IsTupleIter i1 l1 (k1 + 1) := h12.extBut hs3.extBut D.i12
  refine wpAny_pure ⟨_, rfl, ?_⟩
  show Q (.ref g3.objs.size) _
  have hT3 : IsPair (g3.push { cls := .type "tuple", data := .seq #[x, y] }) g3.objs.size x y := Heap.get?_push_size _ rfl
  have up : ∀ c o, g3.get? c = some o → (g3.push { cls := .type "tuple", data := .seq #[x, y] }).get? c = some o := fun c o e => Heap.get?_push_of_some _ e
  rw [hsz] at hT3 ⊢
  exact hQ _ (up _ _ hz3) (h13.at fun o e => up _ o e) (h23.at fun o e => up _ o e) hT3 (by rw [Heap.size_push, hsz]) fun c o c1 c2 c3 e => up c o (hk3 c o c1 c2 c3 e)
theorem zipT_busy_end {z TI TO T0 i1 i2 l1 l2 : Addr} {f : Bool} {oT : Obj} {k1 : Nat} {xs : Array Value} {Q : Fin → Shared → Prop} (hh : A.handled = none) (D : ZipApart z TI TO i1 i2 l1 l2)
    (hz : ZipF s.heap z TI TO T0 f) (hT : s.heap.get? T0 = some oT) (hTI : IsPair s.heap TI (.ref i1) (.ref i2))
    (h1 : s.heap.IsTupleIter i1 l1 k1) (hl1 : s.heap.IsTuple l1 xs) (hend : xs[k1]? = none)
    (hE : ∀ h' e, (∀ c o, c ≠ z → c ≠ i1 → s.heap.get? c = some o → h'.get? c = some o) → (∃ o, h'.get? e = some o ∧ o.cls = .type "StopIteration") → E (.ref e) { s with heap := h' }) :
    wpAny (model prog w) A (Builtin.«zip.__next__» ⟨[.ref z], []⟩) Q E s := by
  show wpAny _ _ (field (.ref z) 2 >>= _) _ _ _
  refine wpAny_bind (wpAny_field hz rfl (x := .bool false) rfl ?_)
  show wpAny _ _ (field (.ref z) 3 >>= _) _ _ _
  refine wpAny_bind (wpAny_field hz rfl (x := .ref TI) rfl ?_)
  refine wpAny_bind (wpAny_seqItems hTI rfl ?_)
  show wpAny _ _ (Builtin.SmallTypes.ownedTupleIsFree (.ref z) >>= _) _ _ _
  refine wpAny_bind (zip_busy hz hT fun g1 hz1 hs1 => ?_)
  simp only [Bool.false_eq_true, if_false]
  refine wpAny_bind ?_
  rw [← Array.forIn_toList]
  simp only [List.forIn_cons, List.forIn_nil]
  refine wpAny_bind (wpAny_bind (wpAny_holding ?_))
  show wpAny _ _ (Builtin.SmallTypes.nextOf (.ref i1) >>= _) _ _ _
  refine wpAny_bind (nextOf_tuple_end hh (h1.extBut hs1.extBut D.i1z) (hl1.extBut hs1.extBut D.l1z) hend ?_)
  intro h' e ext he
  exact hE h' e (fun c o c1 c2 x => ext c o c2 (hs1.extBut c o c1 x)) he
/-- the zip's cells before its turn i -/
def ZS (h : Heap) (z TI TO i1 i2 l1 l2 : Addr) (i : Nat) : Prop :=
  IsPair h TI (.ref i1) (.ref i2) ∧ h.IsTupleIter i1 l1 i ∧ h.IsTupleIter i2 l2 i ∧ ((IsZip h z TI TO .none ∧ ∃ a b, IsPair h TO a b) ∨ ∃ T0 f oT, ZipF h z TI TO T0 f ∧ h.get? T0 = some oT)
theorem ZS.ty {z TI TO i1 i2 l1 l2 : Addr} {i : Nat} {h : Heap} (st : ZS h z TI TO i1 i2 l1 l2 i) : ∃ o, h.get? z = some o ∧ o.cls = .type "zip" := by
  obtain ⟨_, _, _, ⟨hz, _⟩ | ⟨_, _, _, hz, _⟩⟩ := st
  · exact ⟨_, hz, rfl⟩
  · exact ⟨_, hz, rfl⟩
theorem zip_item {z TI TO i1 i2 l1 l2 : Addr} {i : Nat} {xs ys : Array Value} {x y : Value} {Q : Option Value → Shared → Prop} (D : ZipApart z TI TO i1 i2 l1 l2) (st : ZS s.heap z TI TO i1 i2 l1 l2 i)
    (hl1 : s.heap.IsTuple l1 xs) (hl2 : s.heap.IsTuple l2 ys) (hx : xs[i]? = some x) (hy : ys[i]? = some y)
    (hQ : ∀ h', ZS h' z TI TO i1 i2 l1 l2 (i + 1) → IsPair h' s.heap.objs.size x y → h'.objs.size = s.heap.objs.size + 1 →
      (∀ c o, c ≠ z → c ≠ TO → c ≠ i1 → c ≠ i2 → s.heap.get? c = some o → h'.get? c = some o) → Q (some (.ref s.heap.objs.size)) { s with heap := h' }) :
    wpAny (model prog w) A (pyNext (.ref z)) Q E s := by
  have hTy : s.TypeIs (.ref z) "zip" := st.ty
  obtain ⟨hTI, h1, h2, ⟨hz, a, b, hTO⟩ | ⟨T0, f, oT, hz, hT0⟩⟩ := st
  · refine pyNext_zipT_item D hz hTI hTO h1 h2 hl1 hl2 hx hy fun h' z' TO' h1' h2' hT hsz hk => ?_
    exact hQ h' ⟨hk _ _ D.TIz D.TITO D.TIi1 D.TIi2 hTI, h1', h2', .inr ⟨s.heap.objs.size, false, _, z', hT⟩⟩ hT hsz hk
  · unfold pyNext
    refine wpAny_bind (wpAny_attempt (wpAny_callSpecial?_slot (name := Str.ofString "__next__") hTy F.slot_zip_next (wpAny_call_entry F.slot_zip_next hTy F.entry_zip_next
      (zipT_busy_item D hz hT0 hTI h1 h2 hl1 hl2 hx hy fun h' z' h1' h2' hT hsz hk => wpAny_pure ?_) (F.args_zip_next_1 _))))
    have h0 : T0 ≠ z ∨ T0 = z := (Decidable.em (T0 = z)).symm
    have alive : ∃ o', h'.get? T0 = some o' := by
      by_cases e1 : T0 = z
      · exact ⟨_, by rw [e1]; exact z'⟩
      · by_cases e2 : T0 = i1
        · obtain ⟨o, ho, _⟩ := h1'
          exact ⟨o, by rw [e2]; exact ho⟩
        · by_cases e3 : T0 = i2
          · obtain ⟨o, ho, _⟩ := h2'
            exact ⟨o, by rw [e3]; exact ho⟩
          · exact ⟨_, hk _ _ e1 e2 e3 hT0⟩
    obtain ⟨o', ho'⟩ := alive
    exact hQ h' ⟨hk _ _ D.TIz D.TIi1 D.TIi2 hTI, h1', h2', .inr ⟨T0, true, o', z', ho'⟩⟩ hT hsz fun c o c1 _ c3 c4 e => hk c o c1 c3 c4 e
theorem zip_done {z TI TO i1 i2 l1 l2 : Addr} {i : Nat} {xs ys : Array Value} {Q : Option Value → Shared → Prop} (hh : A.handled = none) (D : ZipApart z TI TO i1 i2 l1 l2) (st : ZS s.heap z TI TO i1 i2 l1 l2 i)
    (hl1 : s.heap.IsTuple l1 xs) (hl2 : s.heap.IsTuple l2 ys) (hend : xs[i]? = none)
    (hQ : ∀ h', (∀ c o, c ≠ z → c ≠ TO → c ≠ i1 → c ≠ i2 → s.heap.get? c = some o → h'.get? c = some o) → Q none { s with heap := h' }) :
    wpAny (model prog w) A (pyNext (.ref z)) Q E s := by
  have hTy : s.TypeIs (.ref z) "zip" := st.ty
  obtain ⟨hTI, h1, h2, ⟨hz, a, b, hTO⟩ | ⟨T0, f, oT, hz, hT0⟩⟩ := st
  · exact pyNext_zipT_end hh D hz hTI hTO h1 h2 hl1 hl2 (.inl hend) hQ
  · unfold pyNext
    refine wpAny_bind (wpAny_attempt (wpAny_callSpecial?_slot (name := Str.ofString "__next__") hTy F.slot_zip_next (wpAny_call_entry F.slot_zip_next hTy F.entry_zip_next
      (zipT_busy_end hh D hz hT0 hTI h1 hl1 hend fun h' e hk he => ?_) (F.args_zip_next_1 _))))
    obtain ⟨o, ho, hc⟩ := he
    refine wpAny_bind (wpAny_isInstance (T := "StopIteration") (b := true) ⟨o, ho, hc⟩ isSubtype_stop ?_)
    exact wpAny_pure (hQ _ fun c o c1 _ c3 _ e => hk c o c1 c3 e)
/-- the pairs that were made, each apart -/
structure Pairs (xs ys : Array Value) (lo : Addr) (h : Heap) (as : List Addr) : Prop where
  rise : as.Pairwise (· < ·)
  above : ∀ a ∈ as, lo ≤ a
  pairs : ∀ (j : Nat) (a : Addr), as[j]? = some a → ∃ x y, xs[j]? = some x ∧ ys[j]? = some y ∧ IsPair h a x y
theorem ZS.keep {z TI TO i1 i2 l1 l2 : Addr} {i : Nat} {h h' : Heap} {S : Addr} (st : ZS h z TI TO i1 i2 l1 l2 i) (hS : S ≠ z ∧ S ≠ TI ∧ S ≠ TO ∧ S ≠ i1 ∧ S ≠ i2) (hk : ∀ b o, b ≠ S → h.get? b = some o → h'.get? b = some o) (hSl : ∃ o, h'.get? S = some o) : ZS h' z TI TO i1 i2 l1 l2 i := by
  obtain ⟨n1, n2, n3, n4, n5⟩ := hS
  obtain ⟨hTI, h1, h2, q⟩ := st
  refine ⟨hk _ _ n2.symm hTI, h1.at fun o e => hk _ o n4.symm e, h2.at fun o e => hk _ o n5.symm e, ?_⟩
  rcases q with ⟨hz, a, b, hTO⟩ | ⟨T0, f, oT, hz, hT0⟩
  · exact .inl ⟨hk _ _ n1.symm hz, a, b, hk _ _ n3.symm hTO⟩
  · refine .inr ⟨T0, f, ?_⟩
    by_cases e : T0 = S
    · obtain ⟨o, ho⟩ := hSl
      exact ⟨o, hk _ _ n1.symm hz, by rw [e]; exact ho⟩
    · exact ⟨oT, hk _ _ n1.symm hz, hk _ _ e hT0⟩
theorem zip_loop {z TI TO i1 i2 l1 l2 S : Addr} {xs ys : Array Value} {R : Result → Shared → Prop} {lo : Addr} {h0 : Heap} (hh : A.handled = none) (D : ZipApart z TI TO i1 i2 l1 l2) (hS : S ≠ z ∧ S ≠ TI ∧ S ≠ TO ∧ S ≠ i1 ∧ S ≠ i2) (hSl : S ≠ l1 ∧ S ≠ l2) (hxy : xs.size = ys.size) (hn : xs.size ≤ sizeLine) (res : Value)
    (hlo : S < lo) (hfz : z < lo ∧ TO < lo ∧ i1 < lo ∧ i2 < lo)
    (hR : ∀ h' acc c as, (∀ b o, b ≠ S → b ≠ z → b ≠ TO → b ≠ i1 → b ≠ i2 → h0.get? b = some o → h'.get? b = some o) → h'.get? S = some { cls := .type "list", dict := none, data := .seq acc c, slots := #[] } → as.length = xs.size → Pairs xs ys lo h' as → acc.toList = as.map Value.ref → R (.ok (.ret res)) { s with heap := h' }) :
    ∀ (k i : Nat) (h : Heap) (c : Nat) (acc : Array Value) (as : List Addr), xs.size - i = k → i ≤ xs.size → ZS h z TI TO i1 i2 l1 l2 i → h.IsTuple l1 xs → h.IsTuple l2 ys → lo ≤ h.objs.size →
      (∀ b o, b ≠ S → b ≠ z → b ≠ TO → b ≠ i1 → b ≠ i2 → h0.get? b = some o → h.get? b = some o) → h.get? S = some { cls := .type "list", dict := none, data := .seq acc c, slots := #[] } → acc.toList = as.map Value.ref → as.length = i → Pairs xs ys lo h as →
      codeAny (model prog w) A (.builtin "list.extend.loop" ⟨[.ref S, .ref z, res], []⟩) R { s with heap := h } := by
  obtain ⟨n1, n2, n3, n4, n5⟩ := id hS
  intro k
  induction k with
  | zero =>
    intro i h c acc as hk hi st hl1 hl2 hls hkeep hSg hacc hal hG
    refine codeAny_builtin F.entry_extend_loop ?_
    rw [Around.under_plainId F.plain_extend_loop _]
    show wpAny _ A.in1 (pyNext (.ref z) >>= _) _ _ _
    refine wpAny_bind (zip_done (s := { s with heap := h }) (A := A.in1) hh D st hl1 hl2 (by simp; omega) fun h' he => ?_)
    have off : ∀ a ∈ as, a ≠ z ∧ a ≠ TO ∧ a ≠ i1 ∧ a ≠ i2 := fun a ha => by
      have d := hG.above a ha
      exact ⟨Nat.ne_of_gt (Nat.lt_of_lt_of_le hfz.1 d), Nat.ne_of_gt (Nat.lt_of_lt_of_le hfz.2.1 d), Nat.ne_of_gt (Nat.lt_of_lt_of_le hfz.2.2.1 d), Nat.ne_of_gt (Nat.lt_of_lt_of_le hfz.2.2.2 d)⟩
    refine wpAny_pure (hR h' acc c as (fun b o b1 b2 b3 b4 b5 e => he b o b2 b3 b4 b5 (hkeep b o b1 b2 b3 b4 b5 e)) (he S _ n1 n3 n4 n5 hSg) (by omega) ⟨hG.rise, hG.above, fun j a hj => ?_⟩ hacc)
    obtain ⟨x, y, e1, e2, e3⟩ := hG.pairs j a hj
    obtain ⟨q1, q2, q3, q4⟩ := off a (List.mem_of_getElem? hj)
    exact ⟨x, y, e1, e2, he a _ q1 q2 q3 q4 e3⟩
  | succ k ih =>
    intro i h c acc as hk hi st hl1 hl2 hls hkeep hSg hacc hal hG
    have hlt : i < xs.size := by omega
    have hsz : acc.size = i := by rw [← Array.length_toList, hacc, List.length_map, hal]
    refine codeAny_builtin F.entry_extend_loop ?_
    rw [Around.under_plainId F.plain_extend_loop _]
    show wpAny _ A.in1 (pyNext (.ref z) >>= _) _ _ _
    refine wpAny_bind (zip_item (s := { s with heap := h }) (A := A.in1) D st hl1 hl2 (Array.getElem?_eq_getElem hlt) (Array.getElem?_eq_getElem (by omega : i < ys.size)) fun h' st' hT hz1 hkp => ?_)
    dsimp only at hT hz1 hkp ⊢
    have hS' := hkp S _ n1 n3 n4 n5 hSg
    have up : ∀ b o, b ≠ S → h'.get? b = some o → (h'.update S (Obj.mapSeq (·.push (Value.ref h.objs.size)))).get? b = some o := fun b o hb e => (Heap.get?_update_other _ _ (Ne.symm hb)).trans e
    have hSlt : S < h.objs.size := Heap.lt_size hSg
    have hself := Heap.get?_update_self (Obj.mapSeq (·.push (Value.ref h.objs.size))) hS' rfl
    show wpAny _ A.in1 (updateSeq S (·.push (Value.ref h.objs.size)) >>= _) _ _ _
    refine wpAny_bind ?_
    have hTn : h.objs.size ≠ S := Nat.ne_of_gt hSlt
    have ls1 : l1 ≠ z ∧ l1 ≠ TO ∧ l1 ≠ i1 ∧ l1 ≠ i2 := ⟨D.l1z, D.l1TO, D.l1i1, D.l1i2⟩
    have ls2 : l2 ≠ z ∧ l2 ≠ TO ∧ l2 ≠ i1 ∧ l2 ≠ i2 := ⟨D.l2z, D.l2TO, D.l2i1, D.l2i2⟩
    have both : ∀ b o, b ≠ S → b ≠ z → b ≠ TO → b ≠ i1 → b ≠ i2 → h.get? b = some o → (h'.update S (Obj.mapSeq (·.push (Value.ref h.objs.size)))).get? b = some o := fun b o b1 b2 b3 b4 b5 e => up b o b1 (hkp b o b2 b3 b4 b5 e)
    have tup : ∀ {l : Addr} {us : Array Value}, l ≠ S → l ≠ z ∧ l ≠ TO ∧ l ≠ i1 ∧ l ≠ i2 → h.IsTuple l us → (h'.update S (Obj.mapSeq (·.push (Value.ref h.objs.size)))).IsTuple l us := fun n q ⟨o, ho, r⟩ => ⟨o, both _ o n q.1 q.2.1 q.2.2.1 q.2.2.2 ho, r⟩
    refine wpAny_updateSeq hS' rfl (wpAny_pure ⟨plainId_quiet F.plain_extend_loop _, ih (i + 1) _ _ (acc.push (Value.ref h.objs.size)) (as ++ [h.objs.size]) (by omega) hlt (st'.keep hS up ⟨_, hself⟩) (tup hSl.1.symm ls1 hl1) (tup hSl.2.symm ls2 hl2) ?_
      (fun b o b1 b2 b3 b4 b5 e => both b o b1 b2 b3 b4 b5 (hkeep b o b1 b2 b3 b4 b5 e)) hself (by rw [Array.toList_push, hacc, List.map_append]; rfl) (by rw [List.length_append, hal]; rfl) ⟨?_, ?_, ?_⟩⟩) (by rw [hsz]; omega) (by show (acc.push (Value.ref h.objs.size)).size ≤ sizeLine + 1; rw [Array.size_push, hsz]; omega)
    · refine Nat.le_trans hls ?_
      have e : (h'.update S (Obj.mapSeq (·.push (Value.ref h.objs.size)))).get? h.objs.size = _ := up _ _ hTn hT
      exact Nat.le_of_lt (Heap.lt_size e)
    · refine List.pairwise_append.mpr ⟨hG.rise, List.pairwise_singleton _ _, fun a ha b hb => ?_⟩
      rw [List.mem_singleton.mp hb]
      obtain ⟨j, hj⟩ := List.getElem?_of_mem ha
      obtain ⟨_, _, _, _, e3⟩ := hG.pairs j a hj
      exact Heap.lt_size e3
    · intro a ha
      rcases List.mem_append.mp ha with ha | ha
      · exact hG.above a ha
      · rw [List.mem_singleton.mp ha]
        exact hls
    · intro j b hj
      rcases Nat.lt_trichotomy j as.length with g1 | g1 | g1
      · rw [List.getElem?_append_left g1] at hj
        obtain ⟨x, y, e1, e2, e3⟩ := hG.pairs j b hj
        have d := hG.above b (List.mem_of_getElem? hj)
        exact ⟨x, y, e1, e2, both b _ (Nat.ne_of_gt (Nat.lt_of_lt_of_le hlo d)) (Nat.ne_of_gt (Nat.lt_of_lt_of_le hfz.1 d)) (Nat.ne_of_gt (Nat.lt_of_lt_of_le hfz.2.1 d)) (Nat.ne_of_gt (Nat.lt_of_lt_of_le hfz.2.2.1 d)) (Nat.ne_of_gt (Nat.lt_of_lt_of_le hfz.2.2.2 d)) e3⟩
      · subst g1
        have hb : h.objs.size = b := by simpa using hj
        subst hb
        exact ⟨xs[as.length]'(by omega), ys[as.length]'(by omega), Array.getElem?_eq_getElem _, Array.getElem?_eq_getElem _, by have := up _ _ hTn hT; subst hal; exact this⟩
      · have hnone : (as ++ [h.objs.size])[j]? = none := List.getElem?_eq_none (by rw [List.length_append, List.length_singleton]; omega)
        rw [hnone] at hj
        cases hj
theorem zip_len_none : typeLookup (.type "zip") "__len__" = pure none := am_miss_of_fast (by decide +kernel)
theorem zip_hint_none : typeLookup (.type "zip") "__length_hint__" = pure none := am_miss_of_fast (by decide +kernel)
theorem zip_extend {z TI TO i1 i2 l1 l2 S : Addr} {xs ys : Array Value} {R : Result → Shared → Prop} {lo : Addr} (hh : A.handled = none) (D : ZipApart z TI TO i1 i2 l1 l2) (hS : S ≠ z ∧ S ≠ TI ∧ S ≠ TO ∧ S ≠ i1 ∧ S ≠ i2) (hSl : S ≠ l1 ∧ S ≠ l2) (hxy : xs.size = ys.size) (hn : xs.size ≤ sizeLine) (res : Value)
    (hlo : S < lo) (hfz : z < lo ∧ TO < lo ∧ i1 < lo ∧ i2 < lo) (hle : lo ≤ s.heap.objs.size) (hz : IsZip s.heap z TI TO .none) (st : ZS s.heap z TI TO i1 i2 l1 l2 0) (hl1 : s.heap.IsTuple l1 xs) (hl2 : s.heap.IsTuple l2 ys) (c0 : Nat) (hS0 : s.heap.get? S = some { cls := .type "list", data := .seq #[] c0 })
    (hR : ∀ h' acc c as, (∀ b o, b ≠ S → b ≠ z → b ≠ TO → b ≠ i1 → b ≠ i2 → s.heap.get? b = some o → h'.get? b = some o) → h'.get? S = some { cls := .type "list", dict := none, data := .seq acc c, slots := #[] } → as.length = xs.size → Pairs xs ys lo h' as → acc.toList = as.map Value.ref → R (.ok (.ret res)) { s with heap := h' }) :
    wpAny (model prog w) A.in1 (Builtin.List.listExtendWith (.ref S) (.ref z) res)
      (fun fin s' => match fin with | .done f => R (.ok f) s' | .again c' => c'.quiet = true ∧ codeAny (model prog w) A c' R s') (fun e s' => R (.error e) s') s := by
  have hTy : s.TypeIs (.ref z) "zip" := st.ty
  unfold Builtin.List.listExtendWith
  refine wpAny_bind (wpAny_typeOf (T := "zip") hTy ?_)
  have g1 : Builtin.List.listSameRef (.ref S) (.ref z) = false := by simp [Builtin.List.listSameRef, hS.1]
  have g2 : (Value.type "zip" == Value.type "list") = false := by decide
  have g3 : (Value.type "zip" == Value.type "tuple") = false := by decide
  simp only [g1, g2, g3, Bool.or_false, Bool.false_eq_true, if_false]
  refine wpAny_bind (wpAny_pyIter_zip hz ?_)
  refine wpAny_bind (wpAny_holding ?_)
  unfold Builtin.List.listLengthHint
  refine wpAny_bind (wpAny_specialOf hTy zip_len_none ?_)
  show wpAny _ _ (specialOf (Value.ref z) (Str.ofString "__length_hint__") >>= _) _ _ _
  refine wpAny_bind (wpAny_specialOf hTy zip_hint_none ?_)
  refine wpAny_pure ?_
  show wpAny _ _ (rule "list.extend.makes-room" >>= fun _ => Builtin.List.listTouch (.ref S) >>= fun _ => again (.builtin "list.extend.loop" ⟨[.ref S, .ref z, res], []⟩)) _ _ _
  refine wpAny_bind (wpAny_rule ?_)
  refine wpAny_bind ?_
  show wpAny _ _ (updateSeq S (·.push .none) >>= fun _ => updateSeq S (·.pop)) _ _ _
  refine wpAny_bind (wpAny_updateSeq hS0 rfl ?_)
  have hS2 := Heap.get?_update_self (Obj.mapSeq (·.push Value.none)) hS0 rfl
  refine wpAny_updateSeq (hz := by seq_fits) hS2 rfl ?_
  have hS3 := Heap.get?_update_self (Obj.mapSeq (·.pop)) hS2 rfl
  have oth : ∀ b o, b ≠ S → s.heap.get? b = some o → ((s.heap.update S (Obj.mapSeq (·.push Value.none))).update S (Obj.mapSeq (·.pop))).get? b = some o := fun b o hb e => (Heap.get?_update_other _ _ (Ne.symm hb)).trans ((Heap.get?_update_other _ _ (Ne.symm hb)).trans e)
  refine wpAny_pure ⟨plainId_quiet F.plain_extend_loop _, zip_loop (s := s) (h0 := s.heap) (lo := lo) hh D hS hSl hxy hn res hlo hfz hR xs.size 0 _ _ #[] [] (Nat.sub_zero _) (Nat.zero_le _) (st.keep hS oth ⟨_, hS3⟩) ?_ ?_ ?_ (fun b o b1 _ _ _ _ e => oth b o b1 e) hS3 rfl rfl ⟨List.Pairwise.nil, (fun _ ha => nomatch ha), fun j a hj => by simp at hj⟩⟩
  · obtain ⟨o, ho, r⟩ := hl1
    exact ⟨o, oth _ _ hSl.1.symm ho, r⟩
  · obtain ⟨o, ho, r⟩ := hl2
    exact ⟨o, oth _ _ hSl.2.symm ho, r⟩
  · have e : ((s.heap.update S (Obj.mapSeq (·.push Value.none))).update S (Obj.mapSeq (·.pop))).objs.size = s.heap.objs.size := by
      first
        | rw [Heap.size_update, Heap.size_update]
        | simp [Heap.update]
    rw [e]
    exact hle
/-- list(z) for such a zip -/
theorem zip_list {z TI TO i1 i2 l1 l2 : Addr} {xs ys : Array Value} {Q : Value → Shared → Prop} (hh : A.handled = none) (D : ZipApart z TI TO i1 i2 l1 l2) (hxy : xs.size = ys.size) (hn : xs.size ≤ sizeLine)
    (hfz : z < s.heap.objs.size ∧ TI < s.heap.objs.size ∧ TO < s.heap.objs.size ∧ i1 < s.heap.objs.size ∧ i2 < s.heap.objs.size) (hz : IsZip s.heap z TI TO .none) (st : ZS s.heap z TI TO i1 i2 l1 l2 0) (hl1 : s.heap.IsTuple l1 xs) (hl2 : s.heap.IsTuple l2 ys)
    (hQ : ∀ h' acc c as, (∀ b o, b ≠ z → b ≠ TO → b ≠ i1 → b ≠ i2 → s.heap.get? b = some o → h'.get? b = some o) → h'.get? s.heap.objs.size = some { cls := .type "list", dict := none, data := .seq acc c, slots := #[] } → as.length = xs.size → Pairs xs ys (s.heap.objs.size + 1) h' as → acc.toList = as.map Value.ref → Q (.ref s.heap.objs.size) { s with heap := h' }) :
    wpAny (model prog w) A (call (.type "list") [.ref z]) Q E s := by
  refine callType_codes (Q₁ := fun obj s1 => obj = .ref s.heap.objs.size ∧ s1 = { s with heap := s.heap.push { cls := .type "list", data := .seq #[] } }) F.called_list (F.typeCall_list_1 _) F.entry_list_init (code_list_new _ ⟨rfl, rfl⟩) fun obj s1 hs1 => ?_
  obtain ⟨rfl, rfl⟩ := hs1
  have hS : (s.heap.push { cls := .type "list", data := .seq #[] }).get? s.heap.objs.size = some { cls := .type "list", data := .seq #[] } := Heap.get?_push_size _ rfl
  refine ⟨⟨_, hS, rfl⟩, F.args_list_init_2 _ _, ?_⟩
  show wpAny _ _ (do let old ← Builtin.List.listItems (.ref s.heap.objs.size); Builtin.List.listUpdate (.ref s.heap.objs.size) (fun _ => #[]); letGo old.toList.reverse; Builtin.List.listExtendWith (.ref s.heap.objs.size) (.ref z) .none) _ _ _
  refine wpAny_bind ?_
  unfold Builtin.List.listItems
  refine wpAny_bind (wpAny_seqItems hS rfl (wpAny_pure ?_))
  show wpAny _ _ (updateSeq s.heap.objs.size (fun _ => #[]) >>= fun _ => letGo (#[] : Array Value).toList.reverse >>= fun _ => Builtin.List.listExtendWith (.ref s.heap.objs.size) (.ref z) .none) _ _ _
  refine wpAny_bind (wpAny_updateSeq hS rfl ?_)
  have hS2 := Heap.get?_update_self (Obj.mapSeq (fun _ => (#[] : Array Value))) hS rfl
  have oth : ∀ b o, s.heap.get? b = some o → ((s.heap.push { cls := .type "list", data := .seq #[] }).update s.heap.objs.size (Obj.mapSeq (fun _ => (#[] : Array Value)))).get? b = some o :=
    fun b o e => (Heap.get?_update_other _ _ (Nat.ne_of_gt (Heap.lt_size e))).trans (Heap.get?_push_of_some _ e)
  refine wpAny_bind (wpAny_letGo ?_)
  have hsz2 : ((s.heap.push { cls := .type "list", data := .seq #[] }).update s.heap.objs.size (Obj.mapSeq (fun _ => (#[] : Array Value)))).objs.size = s.heap.objs.size + 1 := by rw [Heap.size_update, Heap.size_push]
  generalize hH2 : (s.heap.push { cls := .type "list", data := .seq #[] }).update s.heap.objs.size (Obj.mapSeq (fun _ => (#[] : Array Value))) = H2 at hS2 oth hsz2 ⊢
  have lt1 : s.heap.objs.size < s.heap.objs.size + 1 := Nat.lt_succ_self _
  have hl1' : l1 < s.heap.objs.size := by
    obtain ⟨o, ho, _⟩ := hl1
    exact Heap.lt_size ho
  have hl2' : l2 < s.heap.objs.size := by
    obtain ⟨o, ho, _⟩ := hl2
    exact Heap.lt_size ho
  obtain ⟨f1, f2, f3, f4, f5⟩ := hfz
  have nS : s.heap.objs.size ≠ z ∧ s.heap.objs.size ≠ TI ∧ s.heap.objs.size ≠ TO ∧ s.heap.objs.size ≠ i1 ∧ s.heap.objs.size ≠ i2 := ⟨Nat.ne_of_gt f1, Nat.ne_of_gt f2, Nat.ne_of_gt f3, Nat.ne_of_gt f4, Nat.ne_of_gt f5⟩
  refine zip_extend (s := { s with heap := H2 }) (A := A.in1) (lo := s.heap.objs.size + 1) (l1 := l1) (l2 := l2) (xs := xs) (ys := ys) hh D nS ⟨Nat.ne_of_gt hl1', Nat.ne_of_gt hl2'⟩ hxy hn .none lt1 ⟨Nat.lt_succ_of_lt f1, Nat.lt_succ_of_lt f3, Nat.lt_succ_of_lt f4, Nat.lt_succ_of_lt f5⟩ (Nat.le_of_eq hsz2.symm) (oth _ _ hz) (st.keep nS (fun b o _ e => oth b o e) ⟨_, hS2⟩) ?_ ?_ _ hS2 ?_
  · obtain ⟨o, ho, r⟩ := hl1
    exact ⟨o, oth _ _ ho, r⟩
  · obtain ⟨o, ho, r⟩ := hl2
    exact ⟨o, oth _ _ ho, r⟩
  · intro h' acc c as hk hSg hl hP hacc
    exact ⟨rfl, hQ h' acc c as (fun b o b2 b3 b4 b5 e => hk b o (Nat.ne_of_lt (Heap.lt_size e)) b2 b3 b4 b5 (oth b o e)) hSg hl hP hacc⟩
end
end Gm
/-! list(zip(xs, ys)) of two tuples, as a rule. -/
namespace Gm
open PySem PySem.Spec PyProof.Rows L2 RZ
/-- pairs told at their addresses -/
def putP (H : Hp) : List Addr → List (V × V) → Hp
  | a :: as, p :: ps => upd (putP H as ps) a (.tup [p.1, p.2])
  | _, _ => H
theorem putP_off {H : Hp} {b : Addr} : ∀ {as : List Addr} {ps : List (V × V)}, b ∉ as → putP H as ps b = H b
  | [], _, _ => by
    unfold putP
    rfl
  | _ :: _, [], _ => rfl
  | a :: as, p :: ps, h => by
    show upd (putP H as ps) a (.tup [p.1, p.2]) b = H b
    rw [upd_ne (fun e => h (by rw [e]; exact List.mem_cons_self ..)), putP_off fun z => h (List.mem_cons_of_mem _ z)]
theorem putP_at {H : Hp} : ∀ {as : List Addr} {ps : List (V × V)} {j : Nat} {a : Addr} {p : V × V}, as.Nodup → as[j]? = some a → ps[j]? = some p → putP H as ps a = some (.tup [p.1, p.2])
  | b :: as, q :: ps, 0, a, p, _, e1, e2 => by
    cases Option.some.inj e1
    cases Option.some.inj e2
    exact upd_same
  | b :: as, q :: ps, j + 1, a, p, nd, e1, e2 => by
    have e1' : as[j]? = some a := e1
    have nd' := List.nodup_cons.mp nd
    show upd (putP H as ps) b (.tup [q.1, q.2]) a = _
    rw [upd_ne (fun e => nd'.1 (by rw [← e]; exact List.mem_of_getElem? e1'))]
    exact putP_at nd'.2 e1' e2
def tListZip (K : Frag) (tas : TA) : TE := fun σ H Q => tas σ H fun vs H1 => ∃ a b xs ys, vs = [.ref a, .ref b] ∧ SqT K H1 a xs ∧ SqT K H1 b ys ∧ xs.length = ys.length ∧
  ∀ (H' : Hp) (p : Addr) (ts : List Addr), Same H1 H' → H1 p = none → p ∉ ts → H' p = some (.lst (ts.map V.ref)) → ts.length = xs.length → (∀ (j : Nat) (t : Addr), ts[j]? = some t → ∃ x y, xs[j]? = some x ∧ ys[j]? = some y ∧ H' t = some (.tup [x, y])) → Q (.ref p) H'
section
variable {X : Cx} {pn : List (Addr × Obj)} {σ : L2.St} {H : Hp} {s : Shared}
theorem refs_vals : ∀ as : List Addr, Vals (as.map V.ref) (as.map Value.ref)
  | [] => .nil
  | _ :: as => .cons rfl (refs_vals as)
theorem pairs_laid {h' : Heap} {xs ys : List V} {us ws : List Value} {acc : Array Value} {c : Nat} {as : List Addr} {S lo : Addr} (I : Inv X pn σ H s) (hz : xs.length ≤ sizeLine) (hxy : xs.length = ys.length) (rx : Vals xs us) (ry : Vals ys ws)
    (hk : ∀ b o, s.heap.get? b = some o → h'.get? b = some o) (hSz : s.heap.objs.size ≤ S) (hlo : S < lo) (hS : h'.get? S = some { cls := .type "list", dict := none, data := .seq acc c, slots := #[] }) (hl : as.length = xs.length) (hP : Pairs us.toArray ws.toArray lo h' as) (hacc : acc.toList = as.map Value.ref) :
    ∃ H' : Hp, Same H H' ∧ H S = none ∧ S ∉ as ∧ H' S = some (.lst (as.map V.ref)) ∧ (∀ (j : Nat) (t : Addr), as[j]? = some t → ∃ x y, xs[j]? = some x ∧ ys[j]? = some y ∧ H' t = some (.tup [x, y])) ∧ Inv X pn σ H' { s with heap := h' } := by
  have hSn : S ∉ as := fun z => absurd (hP.above _ z) (Nat.not_le_of_gt hlo)
  have nd : as.Nodup := List.Pairwise.imp (fun {a b} (h : a < b) => Nat.ne_of_lt h) hP.rise
  have big : ∀ t ∈ as, s.heap.objs.size ≤ t := fun t ht => Nat.le_trans hSz (Nat.le_of_lt (Nat.lt_of_lt_of_le hlo (hP.above t ht)))
  have new : ∀ t ∈ as, H t = none := fun t ht => I.hok.fresh (big t ht)
  have newS : H S = none := I.hok.fresh hSz
  have items : ∀ {j : Nat} {t : Addr}, as[j]? = some t → ∃ x y, xs[j]? = some x ∧ ys[j]? = some y ∧ (xs.zip ys)[j]? = some (x, y) := fun {j t} e => by
    have hj : j < as.length := (List.getElem?_eq_some_iff.mp e).1
    refine ⟨xs[j]'(by omega), ys[j]'(by omega), List.getElem?_eq_getElem _, List.getElem?_eq_getElem _, ?_⟩
    rw [List.getElem?_zip_eq_some]
    exact ⟨List.getElem?_eq_getElem _, List.getElem?_eq_getElem _⟩
  have off : ∀ b, b ∉ as → b ≠ S → putP (upd H S (.lst (as.map V.ref))) as (xs.zip ys) b = H b := fun b h1 h2 => by rw [putP_off h1, upd_ne h2]
  have low : ∀ b o, s.heap.get? b = some o → b ∉ as ∧ b ≠ S := fun b o e => ⟨fun z => absurd (Heap.lt_size e) (Nat.not_lt.mpr (big b z)), fun z => absurd (Heap.lt_size e) (Nat.not_lt.mpr (by rw [z]; exact hSz))⟩
  have kp : ∀ b u, H b = some u → (putP (upd H S (.lst (as.map V.ref))) as (xs.zip ys)) b = some u := fun b u e => by
    rw [off b (fun z => by rw [new b z] at e; cases e) (fun z => by rw [z, newS] at e; cases e)]
    exact e
  have eS : putP (upd H S (.lst (as.map V.ref))) as (xs.zip ys) S = some (.lst (as.map V.ref)) := by rw [putP_off hSn, upd_same]
  refine ⟨putP (upd H S (.lst (as.map V.ref))) as (xs.zip ys), kp, newS, hSn, eS, fun j t e => ?_, ?_⟩
  · obtain ⟨x, y, e1, e2, e3⟩ := items e
    exact ⟨x, y, e1, e2, putP_at nd e e3⟩
  refine I.call' (ch := []) rfl ⟨fun b o q _ _ _ => hk b o q, fun b o q _ _ _ => ⟨o.slots, hk b o q⟩, fun b o q n _ => ?_, fun b o q _ => ⟨o, hk b o q⟩, fun b xs q => kp b _ q, fun b o u q => kp b _ q, fun b ps q => ⟨#[], by rw [kp b _ q]; simp⟩⟩ (fun b u q => ?_) I.bare fun b z => by simp at z
  · obtain ⟨z1, z2⟩ := low b o q
    rw [off b z1 z2]
    exact n
  · by_cases hb : b ∈ as
    · obtain ⟨j, ej⟩ := List.getElem?_of_mem hb
      obtain ⟨x, y, e1, e2, e3⟩ := items ej
      rw [putP_at nd ej e3] at q
      cases q
      obtain ⟨x', y', f1, f2, f3⟩ := hP.pairs j b ej
      obtain ⟨u1, g1, r1⟩ := rx.get e1
      obtain ⟨u2, g2, r2⟩ := ry.get e2
      have f1' : us[j]? = some x' := by simpa using f1
      have f2' : ws[j]? = some y' := by simpa using f2
      rw [g1] at f1'
      rw [g2] at f2'
      cases f1'
      cases f2'
      exact ⟨by show 2 ≤ sizeLine; decide, [_, _], .cons r1 (.cons r2 .nil), ⟨_, f3, rfl, _, rfl⟩⟩
    · by_cases hb2 : b = S
      · rw [hb2] at q ⊢
        rw [eS] at q
        cases q
        refine ⟨by rw [List.length_map]; omega, acc.toList, c, by rw [hacc]; exact refs_vals as, ?_⟩
        rw [Array.toArray_toList]
        exact hS
      · rw [off b hb hb2] at q
        exact (I.hok b u q).stay (fun d v _ y => hk d v y) (fun d y => kp d _ y) fun d xs y => kp d _ y
end
section
variable {X : Cx} {e e2 : Expr} {tas : TA} {p q pos zpos : Pos}
/-- list(zip(e, e2)) -/
theorem pe_listZip (hc : X.calm = true) (hg : Gl X "list") (hm : X.mg "list" = none) (hgz : Gl X "zip") (hmz : X.mg "zip" = none) (ha : PA X [e, e2] tas)
    (hs : starEach [.Call (.Name "zip" q) [e, e2] [] zpos] X.env = (false, eval (.Call (.Name "zip" q) [e, e2] [] zpos) X.env) :: starEach [] X.env := by rfl)
    (hz : starEach [e, e2] X.env = (false, eval e X.env) :: starEach [e2] X.env := by rfl) (hpl : (backTo zpos (starEach [e2] X.env)).any (·.1) = false := by rfl) :
    PE X (.Call (.Name "list" p) [.Call (.Name "zip" q) [e, e2] [] zpos] [] pos) (tListZip X.K tas) := by
  refine ⟨fun pn sh σ H Q I h => ?_⟩
  have hv : bootBuiltins "list" = some (.type "list") := by decide +kernel
  refine wpAny_Call_Name_kw (ld_blt I hg hm hv ?_)
  refine PyProof.Rows.callWith_type1 ?_ hs rfl
  rw [hs]
  show wpAny _ _ (spliced ((false, eval (.Call (.Name "zip" q) [e, e2] [] zpos) X.env) :: backTo pos (starEach [] X.env))) _ _ sh
  refine Calls.spliced_cons ?_
  refine Call_ (ld_blt I hgz hmz PyProof.Rows.boot_zip (PyProof.Rows.callWith_type1 (thn (ha.run zpos pn sh σ H _ I h) fun argv sA ⟨vs, H1, J, rel, post⟩ => ?_) hz hpl))
  obtain ⟨a, b, xs, ys, ex, hqx, hqy, hxy, post⟩ := post
  subst ex
  cases rel with
  | cons rel1 rr =>
    cases rr with
    | cons rel2 rr =>
      cases rr
      cases rel1
      cases rel2
      obtain ⟨us, rvx, p1, hlx⟩ := J.tuple hqx
      obtain ⟨ws, rvy, p2, hly⟩ := J.tuple hqy
      obtain ⟨o1, ho1, _⟩ := id p1
      obtain ⟨o2, ho2, _⟩ := id p2
      refine call_zipT (show sA.heap.IsTuple a us.toArray from p1) (show sA.heap.IsTuple b ws.toArray from p2) fun h' hzz hTI hTO h1 h2 hsz hk => ?_
      refine Calls.spliced_nil ?_
      have lx := rvx.length
      have ly := rvy.length
      have ap := PySem.W.ktu_apart sA.heap.objs.size a b (Heap.lt_size ho1) (Heap.lt_size ho2)
      have low : ∀ c o, sA.heap.get? c = some o → c ≠ sA.heap.objs.size + 4 ∧ c ≠ sA.heap.objs.size + 3 ∧ c ≠ sA.heap.objs.size ∧ c ≠ sA.heap.objs.size + 1 := fun c o e => by
        have d : c < sA.heap.objs.size := Heap.lt_size e
        exact ⟨Nat.ne_of_lt (Nat.lt_add_right 4 d), Nat.ne_of_lt (Nat.lt_add_right 3 d), Nat.ne_of_lt d, Nat.ne_of_lt (Nat.lt_add_right 1 d)⟩
      have five : ∀ k : Nat, k < 5 → sA.heap.objs.size + k < h'.objs.size := fun k hk5 => by
        rw [hsz]
        exact Nat.add_lt_add_left hk5 _
      refine zip_list (s := { sA with heap := h' }) (xs := us.toArray) (ys := ws.toArray) (J.ok.hd hc) ap (by simp; omega) (by rw [List.size_toArray, ← lx]; exact hlx) ⟨five 4 (by decide), five 2 (by decide), five 3 (by decide), five 0 (by decide), five 1 (by decide)⟩ hzz ⟨hTI, h1, h2, .inl ⟨hzz, _, _, hTO⟩⟩ ?_ ?_ fun h3 acc c as hk3 hS3 hl3 hP3 hacc3 => ?_
      · exact (show sA.heap.IsTuple a us.toArray from p1).imp fun o r => ⟨hk _ _ r.1, r.2⟩
      · exact (show sA.heap.IsTuple b ws.toArray from p2).imp fun o r => ⟨hk _ _ r.1, r.2⟩
      · have hk4 : ∀ b o, sA.heap.get? b = some o → h3.get? b = some o := fun b o e => by
          obtain ⟨q1, q2, q3, q4⟩ := low b o e
          exact hk3 b o q1 q2 q3 q4 (hk b o e)
        obtain ⟨H', k1, k2, k3, k4, k5, J3⟩ := pairs_laid (S := h'.objs.size) (lo := h'.objs.size + 1) J hlx hxy rvx rvy hk4 (Nat.le_of_lt (five 0 (by decide))) (Nat.lt_succ_self _) hS3 (by rw [hl3, List.size_toArray, lx]) hP3 hacc3
        exact ⟨.ref h'.objs.size, H', J3, rfl, post H' _ as k1 k2 k3 k4 (by rw [hl3, List.size_toArray, lx]) k5⟩
end
end Gm
/-! An own class walked, whose __iter__ answers iter of a tuple. -/
namespace Gm
open PySem PySem.Spec PyProof.Rows L2
/-- what a def promises where the heap has at least n places -/
structure FnAt (n : Nat) (P : Program) (w : World) (K : PySem.W.Frag) (mg : Str → Option Value) (base : Heap) (k : Nat) (f : Addr) (fd : FuncData) (ps : List Str) (sp : Sp) : Prop where
  len : ∀ vs H Q E, sp vs H Q E → vs.length = ps.length
  run : ∀ (A : Around) (outer : List Env) (s : Shared) (H : Hp) (args : Args) (us : List Value) (vs : List V) (Q : VK) (E : XK), n ≤ s.heap.objs.size → Room k A → Env0 P w K mg base A outer s H → BindsTo s fd args (ps.zip us) → Vals vs us → sp vs H Q E →
    codeAny (model P w) A (.call (.ref f) args) (CR CX0 outer P w H s Q E) s
theorem fn_at {n : Nat} {P : Program} {w : World} {K : PySem.W.Frag} {mg : Str → Option Value} {base : Heap} {k : Nat} {x qual : Str} {st : Stmt} {f : Addr} {fd : FuncData} {N ps : List Str} {sp : Sp} (F : Fun K x qual st f fd) (S : FnScope N ps (defScope st))
    (len : ∀ vs H Q E, sp vs H Q E → vs.length = ps.length)
    (body : ∀ (cdv : Value) (A : Around) (outer : List Env) (s : Shared) (H : Hp) (vs : List V) (Q : VK) (E : XK), n ≤ s.heap.objs.size → Room k (A.deeper (envOfC qual (defScope st) s.heap.objs.size f cdv)) → sp vs H Q E →
      ∃ t, PSs (cxOf CX0 P w K mg base N qual (defScope st) f cdv A outer s H E) (defBody st) t ∧ t { nx := fun _ H' => Q .non H', rt := Q } (start N vs) H) : FnAt n P w K mg base (k + 1) f fd ps sp := by
  obtain ⟨oc, od, kV, doc, pm, an, cdv, ct, osl, rfl, lk, hcd⟩ := F.ex
  refine ⟨len, fun A outer s H args us vs Q E hn hr e0 hb r q => ?_⟩
  have hl := len _ _ _ _ q
  have XK := e0.mod.kin.keeps fun b o e => (e0.bs b o e).1
  have lim := e0.mod.nolimit.keeps fun b o e => (e0.bs b o e).1
  have kinds : ∀ y ∈ ps.zip us, (defScope st).names.lookup y.1 = some .local ∨ ((defScope st).names.lookup y.1 = some .cell ∧ ((cellsFrom (s.heap.objs.size + 1) (defScope st).names []).lookup y.1).isSome = true) := fun ⟨m, v⟩ hy => (S.par m (List.of_mem_zip hy).1).imp id fun c => ⟨c, PySem.W.cellsFrom_some _ _ _ (.inl c)⟩
  refine codeAny_call_function hr.depth (XK _ _ lk) rfl S.co S.gen rfl (PySem.W.codeRec_of XK hcd) (hb _ _ _ _ ?_)
  refine wpAny_newFunctionEnv_cells S.kind kinds fun env he s1 xc => ?_
  subst he
  refine ⟨lim.keeps xc.toInCall.keep, codeAny_func ?_⟩
  obtain ⟨t, ht, hq⟩ := body cdv A outer s H vs Q E hn (hr.deeper _) q
  have I0 := inv_start (CX := CX0) (E := E) S hr.hd e0 hl r xc
  refine wpAny_mono (ht.run [] s1 (start N vs) H _ I0 hq) (fun fl s' z => ?_) fun e s' z => z
  match fl, z with
  | .ret u, z =>
    obtain ⟨v, σ', H', J, rv, q⟩ := z
    exact ⟨v, H', J.os, J.bare, J.base, J.hok, rv, q⟩
  | .next, z =>
    obtain ⟨σ', H', J, q⟩ := z
    exact ⟨V.non, H', J.os, J.bare, J.base, J.hok, rfl, q⟩
  | .brk, z =>
    obtain ⟨_, _, _, q⟩ := z
    exact False.elim q
  | .cont, z =>
    obtain ⟨_, _, _, q⟩ := z
    exact False.elim q
/-! ### iter of a tuple -/
def ItT (l it : Addr) : HO := .ext fun h => h.get? it = some { cls := .type "tuple_iterator", data := .fields #[.ref l, .int 0 0] }
theorem itT_ok {P : Program} {w : World} {H : Hp} {h : Heap} {l it : Addr} (e : h.get? it = some { cls := .type "tuple_iterator", data := .fields #[.ref l, .int 0 0] }) : ObjOk P w H h it (ItT l it) := ⟨e, ⟨_, e⟩, fun h1 h2 q k => k _ q⟩
def rIterT (K : PySem.W.Frag) (n : Nat) : List V → Hp → VK → Prop := fun xs H Q => ∃ (l : Addr) (zs : List V), xs = [.ref l] ∧ SqT K H l zs ∧ ∀ it, H it = none → n ≤ it → Q (.ref it) (upd H it (ItT l it))
section
variable {X : Cx}
theorem call_iterT : CallR X (.builtin "iter") (rIterT X.K X.s_0.heap.objs.size) := by
  intro pn sh σ H xs argv Q I r h
  obtain ⟨l, zs, rfl, hq, q⟩ := h
  obtain ⟨u, rfl, ru⟩ := vals1 r
  cases ru
  obtain ⟨vals, rv, pl, hz⟩ := I.tuple hq
  refine Calls.call_function_entry (by decide +kernel) (by decide +kernel) PySem.W.kdk_entry_iter (PySem.W.kdk_args_iter _) ?_
  unfold Builtin.«iter»
  refine wpAny_bind (m := someArgs "iter" 1 2 _) (wpAny_of_eq (a := [Value.ref l]) (by first | rfl | kernel_rfl!) ?_)
  show wpAny _ _ (pyIter (.ref l) >>= _) _ _ _
  refine wpAny_bind (wpAny_pyIter_tuple (show sh.heap.IsTuple l vals.toArray from pl) ?_)
  refine wpAny_pure ⟨_, rfl, ?_⟩
  exact ⟨.ref sh.heap.objs.size, _, I.laid (t' := sh.toks) (fun b u e => Heap.get?_push_of_some _ e) (Nat.le_refl _) (itT_ok (Heap.get?_push_size _ rfl)), rfl, q _ (I.hok.fresh (Nat.le_refl _)) I.sz⟩
end
theorem drop_upd {H : Hp} {a : Addr} {o : HO} (h : H a = none) : ItX.dropH (upd H a o) a = H := ItX.dropH_upd h
section
variable {X : Cx} {tg e : Expr} {te : TE} {C f : Addr} {fd : FuncData} {ps : List Str} {k : Nat} {sp : Sp}
/-- e, of an own class, walked by what its __iter__ answers: iter of a tuple -/
def iOwnT (K : PySem.W.Frag) (n : Nat) (C : Addr) (sp : Sp) (te : TE) : TI := fun σ H R => te σ H fun x H1 => ∃ a dx fs, x = .ref a ∧ H1 a = some (.ins C dx fs) ∧
  sp [.ref a] H1 (fun v H2 => ∃ it l, v = .ref it ∧ H2 it = some (ItT l it) ∧ n ≤ it ∧ R (Itt K l) (ItX.dropH H2 it)) L2.E0
theorem pi_ownT (hs : PySem.W.findIn X.K (.ref C) "__iter__" = some (some (.ref f))) (hf : PySem.W.isFn X.K (.ref f) = true) (F : FnAt X.s_0.heap.objs.size X.prog X.w X.K X.mg X.base k f fd ps sp) (hr : Room k X.A) (hb : Binds X.K fd ps []) (he : PE X e te) :
    PI X tg e (iOwnT X.K X.s_0.heap.objs.size C sp te) := by
  refine ⟨fun pn sh σ H R I h => ?_⟩
  refine thn (he.run pn sh σ H _ I h) fun u sA ⟨v, H1, J, rel, q⟩ => ?_
  obtain ⟨a, dx, fs, rfl, ha, q⟩ := q
  cases rel
  obtain ⟨od, Ja⟩ := inst_of J ha
  obtain ⟨m, hF⟩ := J.fr
  refine PySem.W.owit_iter hF J.ok.mod.kin Ja hs hf ?_
  have hl := F.len _ _ _ _ q
  have bnd := hb sA [.ref a] J.kIn (by simpa using hl)
  refine wpAny_call (codeAny_mono (F.run X.A X.stack sA H1 ⟨[.ref a], []⟩ [.ref a] [.ref a] _ _ J.sz hr J.env0 (by simpa using bnd) (.cons rfl .nil) q) fun r s' z => ?_)
  match r, z with
  | .error er, z => exact z.elim
  | .ok .next, z => exact False.elim z
  | .ok .brk, z => exact False.elim z
  | .ok .cont, z => exact False.elim z
  | .ok (.ret w), z =>
    obtain ⟨v2, H2, J2, rel2, it, l, rfl, hit, hn, q2⟩ := J.after z
    cases rel2
    have eo := (J2.hok it _ hit).1
    have ty : s'.TypeIs (.ref it) "tuple_iterator" := ⟨_, eo, rfl⟩
    show PySem.W.OwitIt _ _ _ _ (.ref it) s'
    unfold PySem.W.OwitIt
    refine wpAny_specialOf (name := Str.ofString "__next__") ty PySem.F.slot_tuple_iterator_next.lookup ?_
    have hit' := hit
    unfold ItT at hit'
    refine ⟨it, [it], _, _, ItX.dropH H2 it, rfl, ItX.inv_drop J2 hit', turn_tuple l it, ⟨_, eo, rfl, rfl⟩, fun b hb => ?_, q2⟩
    have e : b = it := by simpa using hb
    rw [e]
    exact ItX.inv_fp J2 hit hn
end
end Gm
/-! x == t: an own class with its own ==, and a tuple. -/
namespace Gm
open PySem PySem.Spec PyProof.Rows L2
section
variable {X : Cx} {C f : Addr} {fd : FuncData} {ps : List Str} {CX : CXT} {k : Nat} {sp : Sp} {E : XK}
def rOwnCmpT (K : Frag) (C : Addr) (sp : Sp) (E : XK) : R2 := fun x y H Q => ∃ a b dx fs xs, x = .ref a ∧ y = .ref b ∧ H a = some (.ins C dx fs) ∧ SqT K H b xs ∧ sp [x, y] H Q E
theorem op_ownCmpT (hs : PySem.W.findIn X.K (.ref C) "__eq__" = some (some (.ref f))) (hf : PySem.W.isFn X.K (.ref f) = true) (hnf : PySem.W.notFirst X.K C (.type "tuple") = true)
    (F : FnOk X.prog X.w X.K X.mg X.base CX k f fd ps sp) (hr : Room k X.A) (hb : Binds X.K fd ps []) (hx : Passes CX X E) : OpR X (compareOp .Eq) (rOwnCmpT X.K C sp E) := by
  intro pn sg σ H x y v u Q I rx ry h
  obtain ⟨a, b, dx, fs, xs, rfl, rfl, ha, hq, q⟩ := h
  cases rx
  cases ry
  obtain ⟨od, J⟩ := inst_of I ha
  obtain ⟨vals, rv, pt, _⟩ := I.tuple hq
  obtain ⟨o, ho, hc, _⟩ := id pt
  obtain ⟨m, hF⟩ := I.fr
  show wpAny _ _ (richCompare .Eq (.ref a) (.ref b)) _ _ _
  refine PySem.W.cmp_K (op := .Eq) (tb := .type "tuple") hr.units0 hF I.ok.mod.kin J ?_ hnf hs hf ?_
  · exact hc ▸ (PySem.W.Looks.ld ho).andThen .now
  refine wpAny_mono (run_fn (us := [.ref a, .ref b]) (vs := [.ref a, .ref b]) F hr hb .nil hx I (.cons rfl (.cons rfl .nil)) q) (fun w s' z => ?_) fun _ _ z => z
  obtain ⟨zR, HR, IR, relZ, postZ⟩ := z
  exact SlX.cmpback relZ ⟨zR, HR, IR, relZ, postZ⟩
end
end Gm
/-! c != None, c of an own class that has only its own == -/
namespace Gm
open PySem PySem.Spec PyProof.Rows L2
section
variable {prog : Program} {w : World} {A : Around} {E : Value → Shared → Prop} {s : Shared} {K : PySem.W.Frag} {x C f : Addr} {ox : Obj} {od : Option Obj}
theorem objNeV_body {yv : Value} {Q : Fin → Shared → Prop} (X : K.In s.heap) (J : PySem.W.InstAt s.heap x ox C od) (hs : PySem.W.findIn K (.ref C) "__eq__" = some (some (.ref f))) (hf : PySem.W.isFn K (.ref f) = true) (hu : A.units < cLine)
    (h : wpAny (model prog w) A (call (.ref f) [.ref x, yv]) (fun v s' => ∃ b, v = Value.bool b ∧ Q (.done (.ret (.bool (!b)))) s') E s) : wpAny (model prog w) A (Builtin.«object.__ne__» ⟨[.ref x, yv], []⟩) Q E s := by
  unfold Builtin.«object.__ne__»
  repeat (first
    | with_reducible refine wpAny_cRoomFor hu ?_
    | (refine wpAny_bind (m := callSpecialIfBound? (.ref x) (Str.ofString "__eq__") [yv]) (PySem.W.ifBound_K X J hs hf (wpAny_mono h (fun v s' hv => ?_) fun _ _ e => e))
       obtain ⟨b, rfl, hq⟩ := hv
       repeat (first | exact hq | exact wpAny_pure hq | exact wpAny_truthy_bool hq | (refine wpAny_bind (m := truthy (.bool _)) (wpAny_truthy_bool ?_)) | wp_step))
    | wp_step)
theorem objNeV_call {yv : Value} {Q : Value → Shared → Prop} (X : K.In s.heap) (J : PySem.W.InstAt s.heap x ox C od) (hm : PySem.W.mroIn K C (.type "object") = some true) (hs : PySem.W.findIn K (.ref C) "__eq__" = some (some (.ref f))) (hf : PySem.W.isFn K (.ref f) = true) (hu : A.units + 1 < cLine)
    (h : wpAny (model prog w) A.in1 (call (.ref f) [.ref x, yv]) (NotBack Q) E s) : wpAny (model prog w) A (call (.builtin "object.__ne__") [.ref x, yv]) Q E s := by
  refine wpAny_call (codeAny_call_builtin F.cmp_object.ne.plain F.cmpEntry_ne (PySem.W.check_slot F.cmpKind_ne F.cmpSplit_ne (J.type.andThen (PySem.W.looks_mroIn X hm)) (F.cmpArgs_ne _ _) ?_))
  exact objNeV_body X J hs hf hu h
theorem cmpNeN_K {Q : Value → Shared → Prop} (X : K.In s.heap) (J : PySem.W.InstAt s.heap x ox C od) (hno : PySem.W.subIn K (.type "NoneType") (.ref C) = some false) (hm : PySem.W.mroIn K C (.type "object") = some true)
    (hn : PySem.W.findIn K (.ref C) "__ne__" = some (some (.builtin "object.__ne__"))) (hs : PySem.W.findIn K (.ref C) "__eq__" = some (some (.ref f))) (hf : PySem.W.isFn K (.ref f) = true) (hu : A.units + 1 < cLine)
    (h : wpAny (model prog w) A.in1 (call (.ref f) [.ref x, .none]) (NotBack Q) E s) : wpAny (model prog w) A (compareOp .NotEq (.ref x) .none) Q E s := by
  show wpAny (model prog w) A (richCompare .NotEq (.ref x) .none) Q E s
  have one : wpAny (model prog w) A (tryCompare (.ref x) "__ne__" .none) (fun r s' => ∃ v, r = some v ∧ Q v s') E s := by
    unfold tryCompare
    refine wpAny_bind (objNe_bound X J hn (objNeV_call X J hm hs hf hu (wpAny_mono h (fun v s' hv => ?_) fun _ _ e => e)))
    obtain ⟨b, rfl, hq⟩ := hv
    exact ⟨b, rfl, wpAny_pure ⟨_, rfl, hq⟩⟩
  have tn : PySem.W.Looks (model prog w) s.heap (typeOf Value.none) (.type "NoneType") := .now
  unfold richCompare
  rw [cmpInfo_NotEq]
  simp only [oneThing_ref]
  refine wpAny_holding (wpAny_bind (wpAny_cRoomFor (by omega) ?_))
  refine wpAny_bind (J.type.here (wpAny_bind (tn.here ?_)))
  rw [show (Value.ref C != Value.type "NoneType") = true from by simp]
  simp only [if_true]
  refine wpAny_bind ((PySem.W.looks_subIn X hno).here ?_)
  simp only [Bool.false_eq_true, if_false]
  refine wpAny_bind (wpAny_mono one (fun r s' z => ?_) fun _ _ e => e)
  obtain ⟨v, rfl, hq⟩ := z
  exact wpAny_pure hq
end
section
variable {X : Cx} {C f : Addr} {fd : FuncData} {ps : List Str} {CX : CXT} {k : Nat} {sp : Sp}
def rOwnNeN (C : Addr) (sp : Sp) (E : XK) : R2 := fun x y H Q => ∃ a dx fs, x = .ref a ∧ y = .non ∧ H a = some (.ins C dx fs) ∧ sp [x, y] H (fun v H' => ∃ t, v = .bl t ∧ Q (.bl (!t)) H') E
theorem op_ownNeN {E : XK} (hno : PySem.W.subIn X.K (.type "NoneType") (.ref C) = some false) (hm : PySem.W.mroIn X.K C (.type "object") = some true) (hn : PySem.W.findIn X.K (.ref C) "__ne__" = some (some (.builtin "object.__ne__"))) (hs : PySem.W.findIn X.K (.ref C) "__eq__" = some (some (.ref f))) (hf : PySem.W.isFn X.K (.ref f) = true)
    (F : FnOk X.prog X.w X.K X.mg X.base CX k f fd ps sp) (hr : Room (k + 1) X.A) (hb : Binds X.K fd ps []) (hx : ∀ (H : Hp) (s : Shared) (e : Value) (s' : Shared), CX X.stack H s E e s' → False) : OpR X (compareOp .NotEq) (rOwnNeN C sp E) := by
  intro pn sg σ H x y v u Q I rx ry h
  obtain ⟨a, dx, fs, rfl, rfl, ha, q⟩ := h
  cases rx
  cases (show u = Value.none from ry)
  obtain ⟨od, J⟩ := inst_of I ha
  refine cmpNeN_K I.kIn J hno hm hn hs hf (by have := hr.units; omega) ?_
  have hl := F.len _ _ _ _ q
  have rv : Vals [V.ref a, V.non] [Value.ref a, Value.none] := .cons rfl (.cons rfl .nil)
  refine wpAny_call (codeAny_mono (F.run X.A.in1 X.stack sg H ⟨[.ref a, .none], []⟩ [.ref a, .none] [.ref a, .non] _ E hr.in1 I.env0.in1 (by
    have := hb sg [.ref a, .none] I.kIn (by simpa using hl)
    simpa using this) rv q) fun r s' hq => ?_)
  cases r with
  | error e => exact (hx _ _ _ _ hq).elim
  | ok fl =>
    cases fl with
    | ret w =>
      obtain ⟨z, H', I', rz, t, ez, ex⟩ := I.after hq
      subst ez
      cases (show w = Value.bool t from rz)
      exact ⟨t, rfl, .bl (!t), H', I', rfl, ex⟩
    | next => exact False.elim hq
    | brk => exact False.elim hq
    | cont => exact False.elim hq
end
/-! ### a comprehension over the rows and their items -/
/-- [f(item) for row in rows for item in row] -/
theorem lc2_rows {K : Frag} {pa : Addr} {ws : List V} {m : List (List Int)} {H1 : Hp} {D : Addr} {j j1 : Nat} {te : TE} {vs vs1 : List Nat} {σ : L2.St} {f : Int → Int} {Qd : Hp → Prop} (ha : SqT K H1 pa ws) (hD : H1 D = none)
    (hp : Paired (TRow K H1) ws m) (hlen : m.flatten.length ≤ 1000)
    (hw0 : ∀ x, wipe (List.set (wipe σ vs) j x) vs = wipe σ vs) (hw1 : ∀ x y, wipe (List.set (wipe (List.set (wipe σ vs) j x) vs1) j1 y) vs1 = wipe (List.set (wipe σ vs) j x) vs1)
    (hrow : ∀ x, (List.set (wipe σ vs) j x)[j]? = some x)
    (step : ∀ (z : Int) (x : Option V) (H : Hp) (Ko : VK), Ko (.int (f z)) H → te (List.set (wipe (List.set (wipe σ vs) j x) vs1) j1 (some (.int z))) H Ko)
    (done : ∀ H, Same H1 H → H D = some (.lst ((m.flatten.map f).map V.int)) → Qd H) :
    ∃ W : Nat → Nat → Hp → Prop, (∃ m, W 0 m (upd H1 D (.lst []))) ∧ ∀ i m H, W i m H →
  ((Itt K pa).stop i H ∧ Qd H) ∨ ((Itt K pa).go i H ∧ ∃ Nx : Hp → Prop, (∀ H', Nx H' → ∃ m', m' < m ∧ W (i + 1) m' H') ∧ ∀ x H', (Itt K pa).yld i H x H' → gName j x (wipe σ vs) H' fun σ2 H2 => wipe σ2 vs = wipe σ vs ∧ tYes σ2 H2 fun b H3 =>
    if b = true then iTup K (tVar j) σ2 H3 fun J1 H4 => ∃ W1 : Nat → Nat → Hp → Prop, (∃ m, W1 0 m H4) ∧ ∀ j2 k H, W1 j2 k H →
      (J1.stop j2 H ∧ Nx H) ∨ (J1.go j2 H ∧ ∃ Nx1 : Hp → Prop, (∀ H', Nx1 H' → ∃ k', k' < k ∧ W1 (j2 + 1) k' H') ∧ ∀ x H', J1.yld j2 H x H' → gName j1 x (wipe σ2 vs1) H' fun σ3 H5 => wipe σ3 vs1 = wipe σ2 vs1 ∧ tYes σ3 H5 fun b H6 =>
        if b = true then te σ3 H6 fun y H7 => ∃ acc, H7 D = some (.lst acc) ∧ acc.length < sizeLine ∧ Nx1 (upd H7 D (.lst (acc ++ [y]))) else Nx1 H6)
    else Nx H3) := by
  have lw := Paired.length hp
  have w := walk_tup (K := K) (a := pa) (xs := ws)
  let P : Nat → Hp → Prop := fun i H => Same H1 H ∧ H D = some (.lst (((m.take i).flatten.map f).map V.int))
  have upk : ∀ {H : Hp} {o : HO}, Same H1 H → Same H1 (upd H D o) := fun s b o e => by rw [upd_ne (ne_of_none e hD)]; exact s _ _ e
  refine ⟨fun i k H => k = ws.length - i ∧ i ≤ ws.length ∧ P i H, ⟨ws.length, by simp, Nat.zero_le _, upk (Same.refl _), by rw [upd_same]; rfl⟩, ?_⟩
  rintro i k H ⟨rfl, hi, sH, eD⟩
  by_cases hlt : i < ws.length
  · refine .inr ⟨w.goes i H hlt (Same.seqT sH ha), P (i + 1), fun H' p' => ⟨ws.length - (i + 1), by omega, rfl, hlt, p'⟩, fun x H' y => ?_⟩
    obtain ⟨rfl, ex⟩ := w.yields i H x H' hlt (Same.seqT sH ha) y
    obtain ⟨r, er, a, rfl, har⟩ := Paired.getR hp ex
    have w1 := walk_tup (K := K) (a := a) (xs := r.map V.int)
    refine ⟨hw0 _, tyes_of ?_⟩
    have etk : m.take (i + 1) = m.take i ++ [r] := by rw [List.take_add_one, er]; rfl
    have hfl : ((m.take (i + 1)).flatten).length ≤ m.flatten.length := by
      have : m.flatten = (m.take (i + 1)).flatten ++ (m.drop (i + 1)).flatten := by rw [← List.flatten_append, List.take_append_drop]
      rw [this, List.length_append]
      omega
    rw [etk, List.flatten_append, List.length_append] at hfl
    simp only [List.flatten_cons, List.flatten_nil, List.append_nil] at hfl
    refine ⟨_, hrow _, a, rfl, ⟨_, Same.seqT sH har⟩, ?_⟩
    let P1 : Nat → Hp → Prop := fun q H => Same H1 H ∧ H D = some (.lst (((((m.take i).flatten ++ r.take q)).map f).map V.int))
    refine ⟨fun q k H => k = (r.map V.int).length - q ∧ q ≤ (r.map V.int).length ∧ P1 q H, ⟨(r.map V.int).length, by simp, Nat.zero_le _, sH, by rw [List.take_zero, List.append_nil]; exact eD⟩, ?_⟩
    rintro q k H3 ⟨rfl, hq, s3, e3⟩
    by_cases hlt1 : q < (r.map V.int).length
    · refine .inr ⟨w1.goes q H3 hlt1 (Same.seqT s3 har), P1 (q + 1), fun H' p' => ⟨(r.map V.int).length - (q + 1), by omega, rfl, hlt1, p'⟩, fun x H4 y => ?_⟩
      obtain ⟨rfl, ex1⟩ := w1.yields q H3 x H4 hlt1 (Same.seqT s3 har) y
      obtain ⟨z, ez, rfl⟩ := ints_get ex1
      refine ⟨hw1 _ _, tyes_of (step z _ _ _ ⟨_, e3, small1000 ?_, upk s3, ?_⟩)⟩
      · rw [List.length_map] at hlt1
        rw [List.length_map, List.length_map, List.length_append, List.length_take]
        omega
      · rw [upd_same, List.take_add_one, ez]
        simp [List.map_append]
    · have e : q = (r.map V.int).length := by omega
      subst e
      refine .inl ⟨w1.stops H3 (Same.seqT s3 har), s3, ?_⟩
      have e2 : List.take (r.map V.int).length r = r := List.take_of_length_le (by rw [List.length_map]; exact Nat.le_refl _)
      rw [e2] at e3
      rw [etk, List.flatten_append]
      simp only [List.flatten_cons, List.flatten_nil, List.append_nil]
      exact e3
  · have e : i = ws.length := by omega
    subst e
    rw [List.take_of_length_le (by omega)] at eD
    exact .inl ⟨w.stops H (Same.seqT sH ha), done H sH eD⟩
end Gm
/-! Of an own class: x in c, c == an object of another own class, c != None; range(a, b) as a value; a comprehension over the rows and their items. -/
namespace Gm
open PySem PySem.Spec PyProof.Rows L2
section
variable {X : Cx} {C f : Addr} {fd : FuncData} {ps : List Str} {CX : CXT} {k : Nat} {sp : Sp} {E : XK}
/-- x in c: the answer of the own def is True or False -/
def rOwnIn (C : Addr) (sp : Sp) (E : XK) (neg : Bool) : R2 := fun x y H Q => ∃ b dx fs, y = .ref b ∧ H b = some (.ins C dx fs) ∧ sp [y, x] H (fun v H' => ∃ t, v = .bl t ∧ Q (.bl (if neg then !t else t)) H') E
theorem op_ownIn (hs : PySem.W.findIn X.K (.ref C) "__contains__" = some (some (.ref f))) (hf : PySem.W.isFn X.K (.ref f) = true)
    (F : FnOk X.prog X.w X.K X.mg X.base CX k f fd ps sp) (hr : Room k X.A) (hb : Binds X.K fd ps []) (hx : Passes CX X E) : OpR X (compareOp .In) (rOwnIn C sp E false) := by
  intro pn sg σ H x y v u Q I rx ry h
  obtain ⟨b, dx, fs, rfl, ha, q⟩ := h
  cases ry
  obtain ⟨od, J⟩ := inst_of I ha
  obtain ⟨m, hF⟩ := I.fr
  refine PySem.W.in_K hF I.ok.mod.kin J hs hf ?_
  refine wpAny_mono (run_fn (us := [.ref b, v]) (vs := [.ref b, x]) F hr hb .nil hx I (.cons rfl (.cons rx .nil)) q) (fun w' s' z => ?_) fun _ _ z => z
  obtain ⟨zR, HR, IR, relZ, t, rfl, postZ⟩ := z
  cases (show w' = Value.bool t from relZ)
  exact wpAny_truthy_bool ⟨.bl t, HR, IR, rfl, postZ⟩
theorem op_ownNotIn (hs : PySem.W.findIn X.K (.ref C) "__contains__" = some (some (.ref f))) (hf : PySem.W.isFn X.K (.ref f) = true)
    (F : FnOk X.prog X.w X.K X.mg X.base CX k f fd ps sp) (hr : Room k X.A) (hb : Binds X.K fd ps []) (hx : Passes CX X E) : OpR X (compareOp .NotIn) (rOwnIn C sp E true) := by
  intro pn sg σ H x y v u Q I rx ry h
  obtain ⟨b, dx, fs, rfl, ha, q⟩ := h
  cases ry
  obtain ⟨od, J⟩ := inst_of I ha
  obtain ⟨m, hF⟩ := I.fr
  refine PySem.W.notIn_K hF I.ok.mod.kin J hs hf ?_
  refine wpAny_mono (run_fn (us := [.ref b, v]) (vs := [.ref b, x]) F hr hb .nil hx I (.cons rfl (.cons rx .nil)) q) (fun w' s' z => ?_) fun _ _ z => z
  obtain ⟨zR, HR, IR, relZ, t, rfl, postZ⟩ := z
  cases (show w' = Value.bool t from relZ)
  exact wpAny_truthy_bool ⟨.bl (!t), HR, IR, rfl, postZ⟩
/-- c == an object of another own class -/
def rOwnCmpO (C C2 : Addr) (sp : Sp) (E : XK) : R2 := fun x y H Q => ∃ a b dx fs dy gs, x = .ref a ∧ y = .ref b ∧ H a = some (.ins C dx fs) ∧ H b = some (.ins C2 dy gs) ∧ sp [x, y] H Q E
theorem op_ownCmpO {C2 : Addr} (hs : PySem.W.findIn X.K (.ref C) "__eq__" = some (some (.ref f))) (hf : PySem.W.isFn X.K (.ref f) = true) (hnf : PySem.W.notFirst X.K C (.ref C2) = true)
    (F : FnOk X.prog X.w X.K X.mg X.base CX k f fd ps sp) (hr : Room k X.A) (hb : Binds X.K fd ps []) (hx : Passes CX X E) : OpR X (compareOp .Eq) (rOwnCmpO C C2 sp E) := by
  intro pn sg σ H x y v u Q I rx ry h
  obtain ⟨a, b, dx, fs, dy, gs, rfl, rfl, ha, hb', q⟩ := h
  cases rx
  cases ry
  obtain ⟨od, J⟩ := inst_of I ha
  obtain ⟨od', J'⟩ := inst_of I hb'
  obtain ⟨m, hF⟩ := I.fr
  show wpAny _ _ (richCompare .Eq (.ref a) (.ref b)) _ _ _
  refine PySem.W.cmp_K (op := .Eq) (tb := .ref C2) hr.units0 hF I.ok.mod.kin J J'.type hnf hs hf ?_
  refine wpAny_mono (run_fn (us := [.ref a, .ref b]) (vs := [.ref a, .ref b]) F hr hb .nil hx I (.cons rfl (.cons rfl .nil)) q) (fun w s' z => ?_) fun _ _ z => z
  obtain ⟨zR, HR, IR, relZ, postZ⟩ := z
  exact SlX.cmpback relZ ⟨zR, HR, IR, relZ, postZ⟩
end
end Gm
/-! any(a tuple of ints) -/
namespace Gm
open PySem PySem.Spec PyProof.Rows L2
theorem iter_anyT {prog : Program} {w : World} {A : Around} {E : Value → Shared → Prop} {s : Shared} {l : Addr} {items : Array Value} {Q : Value → Shared → Prop} (hl : s.heap.IsTuple l items)
    (h : ∀ s₂ : Shared, s₂ = { s with heap := s.heap.push { cls := .type "tuple_iterator", data := .fields #[.ref l, .int 0 0] } } →
      (s₂.heap.IsTupleIter s.heap.objs.size l 0 ∧ s₂.heap.IsTuple l items) → l ≠ s.heap.objs.size → Q (.ref s.heap.objs.size) s₂) : wpAny (model prog w) A (pyIter (.ref l)) Q E s := by
  have hlt : l < s.heap.objs.size := by obtain ⟨_, e, _⟩ := hl; exact Heap.lt_size e
  exact wpAny_pyIter_tuple hl (h _ rfl ⟨⟨_, Heap.get?_push_size _ rfl, rfl, rfl⟩, hl.push _⟩ (Nat.ne_of_lt hlt))
theorem truth_ints {prog : Program} {w : World} {A : Around} {ns : List Int} {its : List Value} (e : Vals (ns.map V.int) its) :
    TruthOf prog w A (fun i v => its.toArray[i]? = some v) (fun i => ns.getD i 0 != 0) := fun i v s Q E hv hq => by
  have hv' : its[i]? = some v := by simpa using hv
  obtain ⟨z, t, hz, rfl⟩ : ∃ z t, ns[i]? = some z ∧ v = Value.int z t := by
    clear hq hv
    induction ns generalizing its i with
    | nil => cases e; cases hv'
    | cons n ns ih =>
      cases e with
      | cons x xs =>
        cases i with
        | zero =>
          obtain ⟨t, ht⟩ := x
          refine ⟨n, t, rfl, ?_⟩
          have : _ = v := Option.some.inj hv'
          rw [← this, ht]
        | succ i => exact ih xs i hv'
  have hg : (ns.getD i 0 != 0) = (z != 0) := by rw [List.getD_eq_getElem?_getD, hz] <;> rfl
  have hq' : Q (ns.getD i 0 != 0) s := hq
  rw [hg] at hq'
  exact PySem.P.truthy_int hq'
theorem any_rangeI : ∀ ns : List Int, (List.range ns.length).any (fun i => ns.getD i 0 != 0) = ns.any (fun z => z != 0)
  | [] => rfl
  | b :: bs => by
    rw [List.length_cons, List.range_succ_eq_map, List.any_cons, List.any_map, List.any_cons, ← any_rangeI bs]
    all_goals rfl
section
variable {X : Cx}
def rAnyI (K : PySem.W.Frag) : List V → Hp → VK → Prop := fun vs H Q => ∃ (a : Addr) (ns : List Int), vs = [V.ref a] ∧ SqT K H a (ns.map V.int) ∧ Q (.bl (ns.any fun z => z != 0)) H
theorem cr_anyI (hc : X.calm = true) : CallR X (.builtin "any") (rAnyI X.K) := by
  intro pins s σ H vs us Q I r h
  obtain ⟨a, ns, rfl, hs, q⟩ := h
  obtain ⟨its, rv, hl, _⟩ := I.tuple hs
  rw [Vals.ref1 r]
  refine call_any_walk (iter_anyT hl fun s₂ e2 st hne => ?_)
  subst e2
  refine ⟨_, _, _, _, _, _, _, rfl, Walks.tuple (A := X.A.in1) (I.ok.hd hc) _ a hne its.toArray, st, truth_ints rv, fun h' tk hk => ?_⟩
  refine ⟨.bl _, H, I.kept fun b o eo => hk b o (fun hmem => ?_) (Heap.get?_push_of_some _ eo), ?_, q⟩
  · rcases List.mem_cons.mp hmem with e1 | hmem
    · exact absurd (e1 ▸ Heap.lt_size eo) (Nat.lt_irrefl _)
    · cases hmem
  · have hlen : its.length = ns.length := by have := rv.length; rw [List.length_map] at this; omega
    show Value.bool _ = Value.bool _
    rw [← any_rangeI, List.size_toArray, hlen]
theorem anyIK (K : PySem.W.Frag) (hK : X.K = K) (hc : X.calm = true) : CallR X (.builtin "any") (rAnyI K) := by subst hK; exact cr_anyI hc
end
end Gm
/-! try with several clauses, each with a name or without -/
namespace Gm
open PySem PySem.Spec PyProof.Rows L2
abbrev Clause := Value × Option Nat × (Addr → Value → Option Addr → TS)
/-- behind a clause its name is gone -/
def endI (i : Option Nat) (D : Ends) : Ends := match i with
  | none => D
  | some i => { nx := fun σ' H' => D.nx (σ'.set i none) H', rt := D.rt, bk := fun σ' H' => D.bk (σ'.set i none) H', ct := fun σ' H' => D.ct (σ'.set i none) H' }
def setI (i : Option Nat) (a : Addr) (σ : L2.St) : L2.St := match i with
  | none => σ
  | some i => σ.set i (some (.ref a))
def wCl (K : PySem.W.Frag) (Wout : WX) (D : Ends) : List Clause → WX
  | [] => Wout
  | (c, i, ts) :: r => fun cls d σ H => ∃ b, PySem.W.exmOne K cls c = some b ∧ (b = true → ∀ a, H a = none → ts a cls d (endI i D) (setI i a σ) H) ∧ (b = false → wCl K Wout D r cls d σ H)
inductive ClsOk (X : Cx) : List ExceptHandler → List Clause → Prop
  | nil : ClsOk X [] []
  | bare {x : Str} {c : Value} {ts : Addr → Value → Option Addr → TS} {b₀ : Stmt} {suite : List Stmt} {np pos' : Pos} {hds : List ExceptHandler} {l : List Clause} (hc : Names X x c)
      (hsu : ∀ (a : Addr) (oe : Obj) (cls : Value) (d : Option Addr) (pn : List (Addr × Obj)), Zc cls d oe → (∃ vs, oe.data = .fields vs) → PSs (X.suite a ((a, oe) :: pn)) (b₀ :: suite) (ts a cls d)) (r : ClsOk X hds l) :
      ClsOk X (.ExceptHandler (some (.Name x np)) none (b₀ :: suite) pos' :: hds) ((c, none, ts) :: l)
  | named {x n : Str} {c : Value} {i : Nat} {ts : Addr → Value → Option Addr → TS} {b₀ : Stmt} {suite : List Stmt} {np pos' : Pos} {hds : List ExceptHandler} {l : List Clause} (hc : Names X x c) (hN : X.N.Nodup) (hi : X.N[i]? = some n) (hln : X.env.kindOf n = some .local)
      (hsu : ∀ (a : Addr) (oe : Obj) (cls : Value) (d : Option Addr) (pn : List (Addr × Obj)), Zc cls d oe → (∃ vs, oe.data = .fields vs) → PSs (X.suite a ((a, oe) :: pn)) (b₀ :: suite) (ts a cls d)) (r : ClsOk X hds l) :
      ClsOk X (.ExceptHandler (some (.Name x np)) (some n) (b₀ :: suite) pos' :: hds) ((c, some i, ts) :: l)
section
variable {X : Cx} {pins : List (Addr × Obj)}
/-- how a statement's end in another context is one here -/
theorem sp_back {D D' : Ends} {f : Flow} {s : Shared} {X' : Cx} {pins' : List (Addr × Obj)} (h : SP X' pins' D' f s) (ok : ∀ σ H, Inv X' pins' σ H s → Inv X pins σ H s) (nx : ∀ σ H, D'.nx σ H → D.nx σ H) (rt : ∀ v H, D'.rt v H → D.rt v H) (bk : ∀ σ H, D'.bk σ H → D.bk σ H) (ct : ∀ σ H, D'.ct σ H → D.ct σ H) : SP X pins D f s := by
  cases f with
  | next => obtain ⟨σ, H, I, q⟩ := h; exact ⟨σ, H, ok _ _ I, nx _ _ q⟩
  | brk => obtain ⟨σ, H, I, q⟩ := h; exact ⟨σ, H, ok _ _ I, bk _ _ q⟩
  | cont => obtain ⟨σ, H, I, q⟩ := h; exact ⟨σ, H, ok _ _ I, ct _ _ q⟩
  | ret u => obtain ⟨v, σ, H, I, r, q⟩ := h; exact ⟨v, σ, H, ok _ _ I, r, rt _ _ q⟩
end
section
variable {X : Cx} {body : List Stmt} {h₀ : ExceptHandler} {hds : List ExceptHandler} {l : List Clause} {pos : Pos} {tb : WX → TS} {Wout : WX}
theorem ps_try_cl (hs : X.stack = X.env :: X.outer) (hf : X.env.frame = some X.env.locals) (tk : Takes X Wout)
    (hb : ∀ (W : WX) (pn : List (Addr × Obj)) (xe : Value → Shared → Prop), Takes (X.tr pn xe) W → PassesOwn (model X.prog X.w) X.A X.env xe → PSs (X.tr pn xe) body (tb W))
    (hh : ClsOk X (h₀ :: hds) l) : PS X (.Try body (h₀ :: hds) [] [] pos) (fun D σ H => tb (wCl X.K Wout D l) D σ H) := by
  refine ⟨fun pins s σ H D I h => ?_⟩
  have ok := I.ok
  have hfr : X.A.frames = some (X.env :: X.outer) := by rw [ok.frames, hs]
  refine wpAny_Try_except ?_
  refine wpAny_mono ((hb (wCl X.K Wout D l) (X.pn ++ pins) (fun e s₁ => wpAny (model X.prog X.w) X.A (noteFrame e X.env) (fun _ s₂ => wpAny (model X.prog X.w) X.A (setFlight e none) (fun _ s₃ =>
    wpAny (model X.prog X.w) X.A (handleBy e X.env (h₀ :: hds)) (SP X pins D) X.xe s₃) X.xe s₂) X.xe s₁) (fun u s' xx => ?caught) PassesOwn.looking).run [] s σ H D (I.toTry _) h) (fun f s1 hsp => ?ends) (fun e s1 he => he)
  case ends =>
    have back : SP X pins D f s1 := sp_back hsp (fun _ _ J => J.ofTry ok) (fun _ _ q => q) (fun _ _ q => q) (fun _ _ q => q) (fun _ _ q => q)
    cases f with
    | next => exact wpAny_execs_nil back
    | brk => exact back
    | cont => exact back
    | ret u => exact back
  case caught =>
    obtain ⟨a, B, sI, pins', σ', H', cls, d, rfl, J', nb, up, sky, na, os, ag, w⟩ := xx
    have J : Inv X pins σ' H' sI := J'.ofTry ok
    rw [show (X.tr (X.pn ++ pins) _).stack = X.env :: X.outer from hs] at sky
    show wpAny (model X.prog X.w) X.A (noteFrame (.ref a) X.env) _ _ _
    refine Sky.land Zc.steady hfr hf sky fun h3 fl3 up3 => ?_
    have J3 : Inv X pins σ' H' { s' with heap := h3 } := J.landed nb fl3.1 (up.trans up3) os ag
    obtain ⟨oe3, vs3, he3, hz3, hd3⟩ := fl3.there
    have nfr : a ∉ frs (X.env :: X.outer) := fun hm => by
      obtain ⟨_, o', e', hnf⟩ := fl3.2.2.1.mem hm
      rw [he3] at e'
      cases e'
      exact hnf _ hd3
    have nL : a ≠ X.env.locals := fun z => nfr (List.mem_filterMap.mpr ⟨X.env, List.mem_cons_self, by rw [hf, z]⟩)
    have nF : a ∉ X.fs := fun hm => by
      obtain ⟨e, he, q⟩ := List.mem_filterMap.mp hm
      exact nfr (List.mem_filterMap.mpr ⟨e, List.mem_cons_of_mem _ he, q⟩)
    have S3 := J3.suite he3 hd3 na nL nF
    have LT : PySem.W.Looks (model X.prog X.w) h3 (typeOf (.ref a)) cls := fun A Q E s k q => wpAny_typeOf_ref (k _ _ he3) (by rw [hz3.1]; exact q)
    have named : ∀ {x : Str} {c : Value} {np : Pos} {Q : Value → Shared → Prop} {E : Value → Shared → Prop}, Names X x c → Q c { s' with heap := h3 } → wpAny (model X.prog X.w) (X.A.mark (some (.ref a))) (eval (.Name x np) X.env) Q E { s' with heap := h3 } := fun {x c np Q E} hc q => by
      obtain ⟨hg, hdbg, hm | ⟨hm, hv, hnn⟩⟩ := hc
      · exact ld_glob (X := X.suite a ((a, oe3) :: (X.pn ++ pins))) S3 hg hm q hdbg
      · exact ld_blt (X := X.suite a ((a, oe3) :: (X.pn ++ pins))) S3 hg hm hv q hnn hdbg
    -- no clause is left
    have onward : Wout cls d σ' H' → wpAny (model X.prog X.w) X.A (handleBy (.ref a) X.env []) (SP X pins D) X.xe { s' with heap := h3 } := fun w => by
      refine wpAny_handleBy_nil ?_
      obtain ⟨_, _, _, oe, vs, T, oT, ts', he, hz, hd, h1, hr⟩ := id fl3
      unfold PySem.passOn
      refine wpAny_bind (wpAny_field he hd h1 ?_)
      rw [if_neg (show ¬ ((Value.ref T == Value.none) = true) from by simp)]
      have fin : wpAny (model X.prog X.w) X.A (setFlight (.ref a) X.env.frame) (fun _ s4 => wpAny (model X.prog X.w) X.A (throw (.ref a) : Sem Flow) (SP X pins D) X.xe s4) X.xe { s' with heap := h3 } := by
        rw [hf]
        refine HandSPX.setFlight_upZ fl3 fun h4 hh4 up4 => wpAny_throw (tk _ _ ?_)
        exact ⟨a, B, sI, pins, σ', H', cls, d, rfl, J, nb, (up.trans up3).trans up4, .inr (.inr (by rw [hs]; exact hh4)), na, os, ag, w⟩
      first
        | exact wpAny_bind (wpAny_pure (wpAny_bind fin))
        | exact wpAny_bind fin
    clear h hb
    suffices go : ∀ {hds' : List ExceptHandler} {l' : List Clause}, ClsOk X hds' l' → wCl X.K Wout D l' cls d σ' H' → wpAny (model X.prog X.w) X.A (handleBy (.ref a) X.env hds') (SP X pins D) X.xe { s' with heap := h3 } from go hh w
    intro hds' l' hk w
    induction hk with
    | nil => exact onward w
    | @bare x c ts b₀ suite np pos' hds2 l2 hc hsu r ih =>
      obtain ⟨b, hb1, hyes, hno⟩ := w
      refine wpAny_handleBy_cons (codeAny_handlers_test ?_) (by intro q; cases q)
      refine named hc ((PySem.W.exm_one (M := model X.prog X.w) (J3.kIn) LT hb1).here ?_)
      cases b with
      | false => exact ih (hno rfl)
      | true =>
        refine codeAny_handlers_suite ?_
        refine HandSPX.lands_againZ fl3 fun h4 fl4 up4 => ?_
        have J4 : Inv X pins σ' H' { s' with heap := h4 } := J.landed nb fl4.1 ((up.trans up3).trans up4) os ag
        obtain ⟨oe4, vs4, he4, hz4, hd4⟩ := fl4.there
        have S4 := J4.suite he4 hd4 na nL nF
        refine wpAny_mono ((hsu a oe4 cls d (X.pn ++ pins) hz4 ⟨_, hd4⟩).run [] _ _ H' _ S4 (hyes rfl a na)) (fun f s6 hsp => ?_) (fun _ _ z => False.elim z)
        have back : SP X pins D f s6 := sp_back hsp (fun _ _ J => J.unsuite ok) (fun _ _ q => q) (fun _ _ q => q) (fun _ _ q => q) (fun _ _ q => q)
        cases f <;> exact back
    | @named x n c i ts b₀ suite np pos' hds2 l2 hc hN hi hln hsu r ih =>
      obtain ⟨b, hb1, hyes, hno⟩ := w
      refine wpAny_handleBy_cons (codeAny_handlers_test ?_) (by intro q; cases q)
      refine named hc ((PySem.W.exm_one (M := model X.prog X.w) (J3.kIn) LT hb1).here ?_)
      cases b with
      | false => exact ih (hno rfl)
      | true =>
        refine codeAny_handlers_suite_as ?_
        refine HandSPX.lands_againZ fl3 fun h4 fl4 up4 => ?_
        have J4 : Inv X pins σ' H' { s' with heap := h4 } := J.landed nb fl4.1 ((up.trans up3).trans up4) os ag
        obtain ⟨oe4, vs4, he4, hz4, hd4⟩ := fl4.there
        have S4 := J4.suite he4 hd4 na nL nF
        refine store_ok (X := X.suite a ((a, oe4) :: (X.pn ++ pins))) (v := .ref a) S4 hN hi (.inl hln) rfl (fun s5 S5 => ?_) (.inr hln)
        refine wpAny_mono ((hsu a oe4 cls d (X.pn ++ pins) hz4 ⟨_, hd4⟩).run [] s5 _ H' _ S5 (hyes rfl a na)) (fun f s6 hsp => ?_) (fun _ _ z => False.elim z)
        have gone : ∀ {σ6 : L2.St} {H6 : Hp} {Q : Shared → Prop}, Inv (X.suite a ((a, oe4) :: (X.pn ++ pins))) [] σ6 H6 s6 → (∀ s7, Inv X pins (σ6.set i none) H6 s7 → Q s7) →
            wpAny (model X.prog X.w) X.A (do bindName X.env n .none; unbindBehindTheSuite X.env n pos') (fun _ s7 => Q s7) X.xe s6 := fun {σ6 H6 Q} S6 hq => gone_ok (S6.unsuite ok) hN hi hln hq
        cases f with
        | next =>
          obtain ⟨σ6, H6, S6, q6⟩ := hsp
          exact gone S6 fun s7 J7 => ⟨_, _, J7, q6⟩
        | brk =>
          obtain ⟨σ6, H6, S6, q6⟩ := hsp
          exact gone S6 fun s7 J7 => ⟨_, _, J7, q6⟩
        | cont =>
          obtain ⟨σ6, H6, S6, q6⟩ := hsp
          exact gone S6 fun s7 J7 => ⟨_, _, J7, q6⟩
        | ret u =>
          obtain ⟨v6, σ6, H6, S6, r6, q6⟩ := hsp
          exact gone S6 fun s7 J7 => ⟨_, _, _, J7, r6, q6⟩
end
end Gm
/-! isinstance(e, c), e a caught error that has a dict of its own -/
namespace Gm
open PySem PySem.Spec PyProof.Rows L2
def rIsX (K : PySem.W.Frag) (cls : Value) (d : Option Addr) (D a : Addr) : List V → Hp → VK → Prop := fun xs H Q => ∃ (c : V) (cv : Value) (b : Bool) (dd : Addr) (fs : List (Str × V)), xs = [.ref a, c] ∧ (∀ u, RelV c u → u = cv) ∧ cls = .ref D ∧ d = some dd ∧ H dd = some (.xd fs) ∧ PySem.W.kitOne K (.ref D) cv = some b ∧ Q (.bl b) H
theorem call_isX {X : Cx} {a D : Addr} {oe : Obj} {cls : Value} {d : Option Addr} {pn : List (Addr × Obj)} (hcl : (PySem.W.clsIn X.K D).isSome = true) (T : XfC X.K D) (ha : PySem.W.findIn X.K (.ref D) "__class__" = some (some (.builtin "object.__class__")))
    (hn : PySem.W.specialIn X.K (.builtin "object.__class__") "__get__" = some (some (.builtin "getset_descriptor.__get__"))) (ht : PySem.W.takesIn X.K (.builtin "object.__class__") = some true) (hm : PySem.W.mroIn X.K D (.type "object") = some true)
    (hz : Zc cls d oe) (hf : ∃ vs, oe.data = .fields vs) : CallR (X.suite a ((a, oe) :: pn)) (.builtin "isinstance") (rIsX X.K cls d D a) := by
  intro pins s σ H xs us Q I r h
  obtain ⟨c, cv, b, dd, fs, rfl, hcv, ec, ed, ea, e, q⟩ := h
  subst ec ed
  cases r with
  | cons rx rr =>
    cases rr with
    | cons rt rr =>
      cases rr
      cases rx
      have ec := hcv _ rt
      subst ec
      obtain ⟨hget, _⟩ := I.pin (a, oe) (List.mem_append.mpr (.inl List.mem_cons_self))
      obtain ⟨vs, hv⟩ := hf
      have hx : ObjOk X.prog X.w H s.heap dd (.xd fs) := I.hok dd _ ea
      obtain ⟨mA, hns, _⟩ := hx
      obtain ⟨od, ho, _⟩ := lookIn_ns hns
      have J : PySem.W.InstAt s.heap a oe D (some od) := ⟨hget, hz.1, by unfold PySem.W.notCls; rw [hv] <;> rfl, by rw [hz.2]; exact ho⟩
      exact PySem.W.kia_one (PySem.W.kitx_exc (od := some od) hcl T.ga T.gg T.exC ha hn ht hm) I.kIn J e (fun z => nomatch z) fun tk => ⟨.bl b, H, I.kept (t' := tk) fun _ _ z => z, rfl, q⟩
/-- isinstance(e, c), e a caught error without a dict of its own, its class told by the reading -/
def rIsY (K : PySem.W.Frag) (cls : Value) (d : Option Addr) (D a : Addr) : List V → Hp → VK → Prop := fun xs H Q => ∃ (c : V) (cv : Value) (b : Bool), xs = [.ref a, c] ∧ (∀ u, RelV c u → u = cv) ∧ cls = .ref D ∧ d = none ∧ PySem.W.kitOne K (.ref D) cv = some b ∧ Q (.bl b) H
theorem call_isY {X : Cx} {a D : Addr} {oe : Obj} {cls : Value} {d : Option Addr} {pn : List (Addr × Obj)} (hcl : (PySem.W.clsIn X.K D).isSome = true) (T : XfC X.K D) (ha : PySem.W.findIn X.K (.ref D) "__class__" = some (some (.builtin "object.__class__")))
    (hn : PySem.W.specialIn X.K (.builtin "object.__class__") "__get__" = some (some (.builtin "getset_descriptor.__get__"))) (ht : PySem.W.takesIn X.K (.builtin "object.__class__") = some true) (hm : PySem.W.mroIn X.K D (.type "object") = some true)
    (hz : Zc cls d oe) (hf : ∃ vs, oe.data = .fields vs) : CallR (X.suite a ((a, oe) :: pn)) (.builtin "isinstance") (rIsY X.K cls d D a) := by
  intro pins s σ H xs us Q I r h
  obtain ⟨c, cv, b, rfl, hcv, ec, ed, e, q⟩ := h
  subst ec ed
  cases r with
  | cons rx rr =>
    cases rr with
    | cons rt rr =>
      cases rr
      cases rx
      have ec := hcv _ rt
      subst ec
      obtain ⟨hget, _⟩ := I.pin (a, oe) (List.mem_append.mpr (.inl List.mem_cons_self))
      obtain ⟨vs, hv⟩ := hf
      have J : PySem.W.InstAt s.heap a oe D none := ⟨hget, hz.1, by unfold PySem.W.notCls; rw [hv] <;> rfl, by rw [hz.2]; trivial⟩
      exact PySem.W.kia_one (PySem.W.kitx_exc (od := none) hcl T.ga T.gg T.exC ha hn ht hm) I.kIn J e (fun z => nomatch z) fun tk => ⟨.bl b, H, I.kept (t' := tk) fun _ _ z => z, rfl, q⟩
end Gm
/-! sorted(d, reverse=b) of a dict whose keys are ints -/
namespace Gm
open PySem PySem.Spec PyProof.Rows L2
variable {X : Cx}
theorem cr_sortedDRev {b : Bool} (hcalm : X.calm = true) : CallRK X (.builtin "sorted") [Str.ofString "reverse"] (fun xs zs H Q => ∃ (a : Addr) (kvs : List (Key × V)) (ks : List Int), xs = [.ref a] ∧ zs = [.bl b] ∧ Rd H a (.dK kvs) ∧ kvs.map (·.1) = ks.map Sum.inl ∧ ks.length < 64 ∧
    ∀ (ys : List Int) (p : Addr), ys.Perm ks → OrdB b ys → H p = none → Q (.ref p) (upd H p (.lst (ys.map V.int)))) := by
  intro pins s σ H xs zs us ws Q I r rz q
  obtain ⟨a, kvs, ks, ex, ez, hd, hks, h64, q⟩ := q
  subst ex
  subst ez
  obtain ⟨u, eu, rx⟩ := vals1 r
  subst eu
  cases rx
  obtain ⟨w1, ew, rw1⟩ := vals1 rz
  subst ew
  obtain rfl : w1 = Value.bool b := rw1
  obtain ⟨z, lo, vs, rel, dd⟩ := dk_rd I.hok hd
  obtain ⟨ep, hat⟩ := dd.dictAt
  have hkeys : vs.map (·.1) = ks.map Sum.inl := rel.keys.symm.trans hks
  have hl : vs.length = ks.length := by
    have e := congrArg List.length hkeys
    rw [List.length_map, List.length_map] at e
    exact e
  have h16 : vs.length ≤ sizeLine := by rw [hl, sizeLine_eq]; omega
  refine PyProof.Rows.call_function_entry_kw PyProof.Rows.kind_sorted PyProof.Rows.plain_sorted PyProof.Rows.entry_sorted (PyProof.Rows.args_sorted_rev _ _) ?_
  unfold Builtin.«sorted»
  refine wpAny_bind (m := checkCount "sorted" 1 1 _) (wpAny_pure ?_)
  refine wpAny_bind (PySem.W.kdu_collect (A := X.A.in1) (PySem.W.kdl_dict (knd := mixKind X.prog X.w) (kvs := vs) (ep := ep) lo) (I.ok.hd hcalm) hat h16 fun h' tk acc hk hacc => ?_)
  have hal : acc.toList.length = ks.length := by rw [Array.length_toList, hacc.1, hl]
  have hS : IntsAre acc.toList ks := ints_each hal fun j v e => by
    obtain ⟨k, x, e1, e2⟩ := hacc.2 j v (by rw [← Array.getElem?_toList]; exact e)
    have e3 : (vs.map (·.1))[j]? = some k := by rw [List.getElem?_map, e1]; rfl
    rw [hkeys, List.getElem?_map] at e3
    cases e4 : ks[j]? with
    | none => rw [e4] at e3; cases e3
    | some y =>
      rw [e4] at e3
      have e5 : Sum.inl y = k := Option.some.inj e3
      subst e5
      rcases keyIs_shape (show keyIs (Sum.inl y) v = true from e2) with ⟨i, t, ek, ev⟩ | ⟨z, t, ek, ev⟩
      · cases ek
        exact ⟨y, t, rfl, ev⟩
      · cases ek
  have I1 : Inv X pins σ H { s with heap := h', toks := tk } := I.kept hk
  refine wpAny_bind (wpAny_newList ?_ (by rw [hal, sizeLine_eq]; omega))
  have hoL : (h'.push (seqObj "list" acc.toList.toArray 0)).get? h'.objs.size = some (seqObj "list" acc.toList.toArray 0) := Heap.get?_push_size _ rfl
  show wpAny _ _ _ _ _ { s with heap := h'.push (seqObj "list" acc.toList.toArray 0), toks := tk }
  refine wpAny_bind (wpAny_holding (PyProof.Rows.wpAny_call_entry_kw PyProof.Rows.slot_list_sort ⟨_, hoL, rfl⟩ PyProof.Rows.entry_list_sort ?_ (PyProof.Rows.args_list_sort_rev _ _)))
  refine SrtR.list_sort_ordR (b := b) SrtO.swo_int hoL (by rw [hal, sizeLine_eq]; omega) (fun h2 => SrtO.ints_sortable hS h2) fun out h1 h2 => ⟨_, rfl, ?_⟩
  obtain ⟨ns', k1, k2, k3⟩ := SrtR.ints_outR hS h1 h2
  obtain ⟨e', he'⟩ := PyProof.Rows.sortedHeap_at (vs := acc.toList) (out := (if b = true then out.toArray.reverse else out.toArray)) hoL
  have hlen : (ns'.map V.int).length ≤ sizeLine := by
    rw [List.length_map, k2.length_eq]
    exact Nat.le_trans (Nat.le_of_lt h64) (by decide)
  refine wpAny_pure ⟨_, rfl, .ref h'.objs.size, upd H h'.objs.size (.lst (ns'.map V.int)), I1.laid (t' := tk) (fun b u e => ?_) (Nat.le_refl _)
    (show ObjOk X.prog X.w _ _ _ (.lst (ns'.map V.int)) from ⟨hlen, _, e', vals_of_ints k1, by rw [Array.toArray_toList]; exact he'⟩), rfl, q ns' _ k2 k3 (I1.hok.fresh (Nat.le_refl _))⟩
  have hb : b < h'.objs.size := Heap.lt_size e
  rw [PyProof.Rows.sortedHeap_old (Nat.ne_of_lt hb) (by rw [size_push']; exact Nat.lt_succ_of_lt hb)]
  exact Heap.get?_push_of_some _ e
end Gm
/-! rows of integers in Hermite form: pivots, spans, sizes -/
namespace Gm
def mixR (a : Int) (x : List Int) (b : Int) (y : List Int) : List Int := List.zipWith (fun x y => a * x + b * y) x y
theorem mixR_len {a b : Int} {x y : List Int} {w : Nat} (hx : x.length = w) (hy : y.length = w) : (mixR a x b y).length = w := by
  unfold mixR
  rw [List.length_zipWith, hx, hy, Nat.min_self]
theorem getD_none {x : List Int} {j : Nat} (h : x.length ≤ j) : x.getD j 0 = 0 := by
  rw [List.getD_eq_getElem?_getD, List.getElem?_eq_none h]
  rfl
theorem mixR_get {a b : Int} {x y : List Int} {w : Nat} (hx : x.length = w) (hy : y.length = w) (j : Nat) : (mixR a x b y).getD j 0 = a * x.getD j 0 + b * y.getD j 0 := by
  by_cases h : j < w
  · unfold mixR
    rw [List.getD_eq_getElem?_getD, List.getElem?_zipWith, List.getElem?_eq_getElem (show j < x.length by omega), List.getElem?_eq_getElem (show j < y.length by omega), List.getD_eq_getElem?_getD, List.getD_eq_getElem?_getD, List.getElem?_eq_getElem (show j < x.length by omega), List.getElem?_eq_getElem (show j < y.length by omega)]
    rfl
  · rw [getD_none (by rw [mixR_len hx hy]; omega), getD_none (by omega), getD_none (by omega), Int.mul_zero, Int.mul_zero]
    rfl
theorem list_ext {x y : List Int} {w : Nat} (hx : x.length = w) (hy : y.length = w) (h : ∀ j, x.getD j 0 = y.getD j 0) : x = y := by
  apply List.ext_getElem (by omega)
  intro j h1 h2
  have := h j
  rw [List.getD_eq_getElem?_getD, List.getD_eq_getElem?_getD, List.getElem?_eq_getElem h1, List.getElem?_eq_getElem h2] at this
  exact this
/-! ### spans -/
def Spn : List (List Int) → (Nat → Int) → Prop
  | [], x => ∀ j, x j = 0
  | r :: R, x => ∃ a : Int, Spn R (fun j => x j - a * r.getD j 0)
theorem Spn.cong {R : List (List Int)} {x y : Nat → Int} (h : Spn R x) (e : ∀ j, x j = y j) : Spn R y := by
  have : x = y := funext e
  rw [← this]
  exact h
theorem Spn.zero : ∀ (R : List (List Int)), Spn R (fun _ => 0)
  | [] => fun _ => rfl
  | r :: R => ⟨0, (Spn.zero R).cong fun j => by rw [Int.zero_mul, Int.sub_zero]⟩
theorem Spn.add : ∀ {R : List (List Int)} {x y : Nat → Int}, Spn R x → Spn R y → Spn R (fun j => x j + y j)
  | [], x, y, h, k => fun j => by show x j + y j = 0; rw [h j, k j]; rfl
  | r :: R, x, y, ⟨a, h⟩, ⟨b, k⟩ => ⟨a + b, (Spn.add h k).cong fun j => by grind⟩
theorem Spn.smul (c : Int) : ∀ {R : List (List Int)} {x : Nat → Int}, Spn R x → Spn R (fun j => c * x j)
  | [], x, h => fun j => by show c * x j = 0; rw [h j, Int.mul_zero]
  | r :: R, x, ⟨a, h⟩ => ⟨c * a, (Spn.smul c h).cong fun j => by grind⟩
theorem Spn.tail {R : List (List Int)} {r : List Int} {x : Nat → Int} (h : Spn R x) : Spn (r :: R) x := ⟨0, h.cong fun j => by rw [Int.zero_mul, Int.sub_zero]⟩
theorem Spn.head (R : List (List Int)) (r : List Int) : Spn (r :: R) (fun j => r.getD j 0) := ⟨1, (Spn.zero R).cong fun j => by show (0 : Int) = r.getD j 0 - 1 * r.getD j 0; omega⟩
theorem Spn.mem : ∀ {R : List (List Int)} {r : List Int}, r ∈ R → Spn R (fun j => r.getD j 0)
  | q :: R, r, h => by
    rcases List.mem_cons.mp h with rfl | h
    · exact Spn.head R r
    · exact (Spn.mem h).tail
/-- a span within a span -/
theorem Spn.sub : ∀ {R S : List (List Int)} {x : Nat → Int}, (∀ r ∈ R, Spn S (fun j => r.getD j 0)) → Spn R x → Spn S x
  | [], S, x, _, h => (Spn.zero S).cong fun j => (h j).symm
  | r :: R, S, x, hs, ⟨a, h⟩ => ((Spn.sub (fun q hq => hs q (List.mem_cons_of_mem _ hq)) h).add ((hs r (List.mem_cons_self ..)).smul a)).cong fun j => by grind
theorem Spn.prop {R : List (List Int)} {x : Nat → Int} (P : (Nat → Int) → Prop) (h0 : P fun _ => 0) (ha : ∀ (x y : Nat → Int) (a : Int), P x → P y → P fun j => x j + a * y j) (hr : ∀ r ∈ R, P fun j => r.getD j 0) (h : Spn R x) : P x := by
  induction R generalizing x with
  | nil =>
    have : x = fun _ => 0 := funext h
    rw [this]
    exact h0
  | cons r R ih =>
    obtain ⟨a, h⟩ := h
    have h1 := ih (fun q hq => hr q (List.mem_cons_of_mem _ hq)) h
    have h2 := ha _ _ a h1 (hr r (List.mem_cons_self ..))
    have e : (fun j => x j - a * r.getD j 0 + a * r.getD j 0) = x := funext fun j => by omega
    rwa [e] at h2
/-! ### pivots -/
abbrev Tops := List (Nat × List Int)
abbrev rowsT (T : Tops) : List (List Int) := T.map (·.2)
structure Pv (w : Nat) (p : Nat × List Int) : Prop where
  lt : p.1 < w
  len : p.2.length = w
  zero : ∀ j, j < p.1 → p.2.getD j 0 = 0
  pos : 0 < p.2.getD p.1 0
structure Ech (w : Nat) (T : Tops) : Prop where
  asc : T.Pairwise fun p q => p.1 < q.1
  pv : ∀ p ∈ T, Pv w p
theorem Ech.tail {w : Nat} {p : Nat × List Int} {T : Tops} (h : Ech w (p :: T)) : Ech w T := ⟨(List.pairwise_cons.mp h.asc).2, fun q hq => h.pv q (List.mem_cons_of_mem _ hq)⟩
theorem Ech.head {w : Nat} {p : Nat × List Int} {T : Tops} (h : Ech w (p :: T)) : Pv w p ∧ ∀ q ∈ T, p.1 < q.1 := ⟨h.pv p (List.mem_cons_self ..), (List.pairwise_cons.mp h.asc).1⟩
theorem Ech.cons {w : Nat} {p : Nat × List Int} {T : Tops} (h : Ech w T) (hp : Pv w p) (hl : ∀ q ∈ T, p.1 < q.1) : Ech w (p :: T) := ⟨List.pairwise_cons.mpr ⟨hl, h.asc⟩, fun q hq => by
  rcases List.mem_cons.mp hq with rfl | hq
  · exact hp
  · exact h.pv q hq⟩
/-- what lies in the span of pivots behind c is zero up to c -/
theorem Ech.zero {w c : Nat} : ∀ {T : Tops}, Ech w T → (∀ q ∈ T, c < q.1) → ∀ {x : Nat → Int}, Spn (rowsT T) x → ∀ j, j ≤ c → x j = 0
  | [], _, _, x, h, j, _ => h j
  | p :: T, E, hc, x, ⟨a, h⟩, j, hj => by
    have h1 := Ech.zero E.tail (fun q hq => hc q (List.mem_cons_of_mem _ hq)) h j hj
    have h2 := E.head.1.zero j (by have := hc p (List.mem_cons_self ..); omega)
    rw [h2, Int.mul_zero, Int.sub_zero] at h1
    exact h1
/-- the first item of a combination is a multiple of a pivot -/
theorem Ech.lead {w : Nat} : ∀ {T : Tops}, Ech w T → ∀ {x : Nat → Int} {c : Nat}, Spn (rowsT T) x → (∀ j, j < c → x j = 0) → x c ≠ 0 → ∃ p ∈ T, p.1 = c ∧ p.2.getD c 0 ∣ x c
  | [], _, x, c, h, _, hn => absurd (h c) hn
  | p :: T, E, x, c, ⟨a, h⟩, hz, hn => by
    obtain ⟨hp, hl⟩ := E.head
    have hp1 := Ech.zero E.tail hl h p.1 (Nat.le_refl _)
    have hp1 : x p.1 = a * p.2.getD p.1 0 := by have : x p.1 - a * p.2.getD p.1 0 = 0 := hp1; omega
    by_cases ha : a = 0
    · subst ha
      have e : ∀ j, x j - 0 * p.2.getD j 0 = x j := fun j => by rw [Int.zero_mul, Int.sub_zero]
      obtain ⟨q, hq, e1, e2⟩ := Ech.lead E.tail (h.cong e) hz hn
      exact ⟨q, List.mem_cons_of_mem _ hq, e1, e2⟩
    · have h0 : x p.1 ≠ 0 := by
        rw [hp1]
        exact Int.mul_ne_zero ha (by have := hp.pos; omega)
      have h1 : ∀ j, j < p.1 → x j = 0 := fun j hj => by
        have h2 : x j - a * p.2.getD j 0 = 0 := Ech.zero E.tail hl h j (by omega)
        rw [hp.zero j hj, Int.mul_zero, Int.sub_zero] at h2
        exact h2
      have ec : p.1 = c := by
        rcases Nat.lt_trichotomy p.1 c with hlt | heq | hgt
        · exact absurd (hz _ hlt) h0
        · exact heq
        · exact absurd (h1 c hgt) hn
      subst ec
      exact ⟨p, List.mem_cons_self .., rfl, ⟨a, by rw [hp1, Int.mul_comm]⟩⟩
/-- each pivot is in the range of those behind it -/
def Tid : Tops → Prop
  | [] => True
  | p :: T => (∀ q ∈ T, 0 ≤ p.2.getD q.1 0 ∧ p.2.getD q.1 0 < q.2.getD q.1 0) ∧ Tid T
/-- the Hermite form is one alone -/
theorem herm_uniq {w : Nat} : ∀ {T S : Tops}, Ech w T → Ech w S → Tid T → Tid S → (∀ x, Spn (rowsT T) x ↔ Spn (rowsT S) x) → T = S
  | [], [], _, _, _, _, _ => rfl
  | [], q :: S, _, E', _, _, h => by
    obtain ⟨hq, _⟩ := E'.head
    have h1 : Spn (rowsT ([] : Tops)) (fun j => q.2.getD j 0) := (h _).mpr (Spn.head _ _)
    have h2 : q.2.getD q.1 0 = 0 := h1 q.1
    have h3 := hq.pos
    omega
  | p :: T, [], E, _, _, _, h => by
    obtain ⟨hq, _⟩ := E.head
    have h1 : Spn (rowsT ([] : Tops)) (fun j => p.2.getD j 0) := (h _).mp (Spn.head _ _)
    have h2 : p.2.getD p.1 0 = 0 := h1 p.1
    have h3 := hq.pos
    omega
  | p :: T, q :: S, E, E', t, t', h => by
    obtain ⟨hp, hpl⟩ := E.head
    obtain ⟨hq, hql⟩ := E'.head
    -- the first pivot of one is a pivot of the other
    have side : ∀ {p q : Nat × List Int} {T S : Tops}, Ech w (p :: T) → Ech w (q :: S) → (∀ x, Spn (rowsT (p :: T)) x ↔ Spn (rowsT (q :: S)) x) → q.1 ≤ p.1 := fun {p q T S} E E' h => by
      obtain ⟨hp, hpl⟩ := E.head
      have h1 := (h _).mp (Spn.head (rowsT T) p.2)
      obtain ⟨r, hr, er, _⟩ := Ech.lead E' h1 (fun j hj => hp.zero j hj) (by have := hp.pos; omega)
      rcases List.mem_cons.mp hr with rfl | hr
      · omega
      · have := E'.head.2 r hr
        omega
    have ec : p.1 = q.1 := Nat.le_antisymm (side E' E fun x => (h x).symm) (side E E' h)
    -- and of the same size
    have dv : ∀ {p q : Nat × List Int} {T S : Tops}, Ech w (p :: T) → Ech w (q :: S) → (∀ x, Spn (rowsT (p :: T)) x ↔ Spn (rowsT (q :: S)) x) → p.1 = q.1 → q.2.getD q.1 0 ∣ p.2.getD p.1 0 := fun {p q T S} E E' h ec => by
      obtain ⟨hp, hpl⟩ := E.head
      have h1 := (h _).mp (Spn.head (rowsT T) p.2)
      obtain ⟨r, hr, er, hd⟩ := Ech.lead E' h1 (fun j hj => hp.zero j hj) (by have := hp.pos; omega)
      rcases List.mem_cons.mp hr with rfl | hr
      · rw [← er] at hd ⊢
        exact hd
      · have := E'.head.2 r hr
        omega
    have ep : p.2.getD p.1 0 = q.2.getD q.1 0 := by
      have d1 := dv E E' h ec
      have d2 := dv E' E (fun x => (h x).symm) ec.symm
      exact Int.dvd_antisymm (Int.le_of_lt hp.pos) (Int.le_of_lt hq.pos) d2 d1
    -- the rest spans the same
    have rest : ∀ {p q : Nat × List Int} {T S : Tops}, Ech w (p :: T) → Ech w (q :: S) → (∀ x, Spn (rowsT (p :: T)) x → Spn (rowsT (q :: S)) x) → p.1 = q.1 → ∀ x, Spn (rowsT T) x → Spn (rowsT S) x := fun {p q T S} E E' h ec x hx => by
      obtain ⟨hp, hpl⟩ := E.head
      obtain ⟨hq, hql⟩ := E'.head
      have x0 := Ech.zero E.tail hpl hx p.1 (Nat.le_refl _)
      obtain ⟨a, ha⟩ := h x hx.tail
      have h1 : x q.1 - a * q.2.getD q.1 0 = 0 := Ech.zero E'.tail hql ha q.1 (Nat.le_refl _)
      rw [← ec, x0] at h1
      have a0 : a = 0 := by
        rcases Int.mul_eq_zero.mp (show a * q.2.getD q.1 0 = 0 by rw [ec] at h1; omega) with h2 | h2
        · exact h2
        · have := hq.pos
          omega
      subst a0
      exact ha.cong fun j => by rw [Int.zero_mul, Int.sub_zero]
    have hT : ∀ x, Spn (rowsT T) x ↔ Spn (rowsT S) x := fun x => ⟨rest E E' (fun x => (h x).mp) ec x, rest E' E (fun x => (h x).mpr) ec.symm x⟩
    have eT := herm_uniq E.tail E'.tail t.2 t'.2 hT
    subst eT
    -- the first rows
    have hd : Spn (rowsT T) (fun j => p.2.getD j 0 - q.2.getD j 0) := by
      obtain ⟨a, ha⟩ := (h _).mp (Spn.head (rowsT T) p.2)
      have h1 : p.2.getD q.1 0 - a * q.2.getD q.1 0 = 0 := Ech.zero E.tail hql ha q.1 (Nat.le_refl _)
      have a1 : a = 1 := by
        rw [← ec, ep, ec] at h1
        have hq0 := hq.pos
        have : (1 - a) * q.2.getD q.1 0 = 0 := by rw [Int.sub_mul, Int.one_mul]; exact h1
        rcases Int.mul_eq_zero.mp this with h2 | h2
        · omega
        · omega
      subst a1
      exact ha.cong fun j => by rw [Int.one_mul]
    have hz : ∀ j, p.2.getD j 0 - q.2.getD j 0 = 0 := by
      by_cases hall : ∀ j, p.2.getD j 0 - q.2.getD j 0 = 0
      · exact hall
      · exfalso
        have hex : ∃ j, p.2.getD j 0 - q.2.getD j 0 ≠ 0 := Classical.not_forall.mp hall
        -- the least one
        have least : ∀ n, (∃ j, j < n ∧ p.2.getD j 0 - q.2.getD j 0 ≠ 0) → ∃ c, p.2.getD c 0 - q.2.getD c 0 ≠ 0 ∧ ∀ j, j < c → p.2.getD j 0 - q.2.getD j 0 = 0 := fun n => by
          induction n with
          | zero => rintro ⟨j, hj, _⟩; exact absurd hj (Nat.not_lt_zero _)
          | succ n ih =>
            rintro ⟨j, hj, hn⟩
            by_cases hs : ∃ j, j < n ∧ p.2.getD j 0 - q.2.getD j 0 ≠ 0
            · exact ih hs
            · refine ⟨j, hn, fun k hk => ?_⟩
              by_cases hk0 : p.2.getD k 0 - q.2.getD k 0 = 0
              · exact hk0
              · exact absurd ⟨k, by omega, hk0⟩ hs
        obtain ⟨j, hj⟩ := hex
        obtain ⟨c, hc, hl⟩ := least (j + 1) ⟨j, Nat.lt_succ_self _, hj⟩
        obtain ⟨r, hr, er, ⟨k, hk⟩⟩ := Ech.lead E.tail hd hl hc
        have b1 := t.1 r hr
        have b2 := t'.1 r hr
        rw [er] at b1 b2
        have hk0 : k = 0 := by
          rcases Int.lt_trichotomy k 0 with h1 | h1 | h1
          · have : r.2.getD c 0 * k ≤ r.2.getD c 0 * (-1) := Int.mul_le_mul_of_nonneg_left (by omega) (by omega)
            omega
          · exact h1
          · have : r.2.getD c 0 * 1 ≤ r.2.getD c 0 * k := Int.mul_le_mul_of_nonneg_left (by omega) (by omega)
            omega
        rw [hk0, Int.mul_zero] at hk
        exact hc hk
    have er : p.2 = q.2 := list_ext hp.len hq.len fun j => by have := hz j; omega
    have : p = q := by
      cases p
      cases q
      simp only at ec er
      rw [ec, er]
    rw [this]
end Gm
/-! reducing by pivots, tidying, and the sizes -/
namespace Gm
def redT : Tops → List Int → List Int
  | [], row => row
  | p :: T, row => redT T (if row.getD p.1 0 / p.2.getD p.1 0 ≠ 0 then mixR 1 row (-(row.getD p.1 0 / p.2.getD p.1 0)) p.2 else row)
def tidyT : Tops → Tops
  | [] => []
  | p :: T => (p.1, redT (tidyT T) p.2) :: tidyT T
def red1 (p : Nat × List Int) (row : List Int) : List Int := if row.getD p.1 0 / p.2.getD p.1 0 ≠ 0 then mixR 1 row (-(row.getD p.1 0 / p.2.getD p.1 0)) p.2 else row
theorem redT_cons (p : Nat × List Int) (T : Tops) (row : List Int) : redT (p :: T) row = redT T (red1 p row) := rfl
theorem red1_len {p : Nat × List Int} {row : List Int} {w : Nat} (hp : p.2.length = w) (hr : row.length = w) : (red1 p row).length = w := by
  unfold red1
  split
  · exact mixR_len hr hp
  · exact hr
theorem red1_get {p : Nat × List Int} {row : List Int} {w : Nat} (hp : p.2.length = w) (hr : row.length = w) (j : Nat) : (red1 p row).getD j 0 = row.getD j 0 - row.getD p.1 0 / p.2.getD p.1 0 * p.2.getD j 0 := by
  unfold red1
  split
  · rw [mixR_get hr hp, Int.one_mul, Int.neg_mul]
    omega
  · rename_i h
    have h0 : row.getD p.1 0 / p.2.getD p.1 0 = 0 := by omega
    rw [h0, Int.zero_mul, Int.sub_zero]
theorem redT_len {w : Nat} : ∀ {T : Tops} {row : List Int}, (∀ p ∈ T, p.2.length = w) → row.length = w → (redT T row).length = w
  | [], _, _, h => h
  | p :: T, row, hT, h => redT_len (T := T) (row := red1 p row) (fun q hq => hT q (List.mem_cons_of_mem _ hq)) (red1_len (hT p (List.mem_cons_self ..)) h)
theorem redT_span {w : Nat} : ∀ {T : Tops} {row : List Int}, (∀ p ∈ T, p.2.length = w) → row.length = w → Spn (rowsT T) (fun j => row.getD j 0 - (redT T row).getD j 0)
  | [], row, _, _ => fun j => by show row.getD j 0 - row.getD j 0 = 0; omega
  | p :: T, row, hT, h => by
    have hp := hT p (List.mem_cons_self ..)
    have ih := redT_span (T := T) (row := red1 p row) (fun q hq => hT q (List.mem_cons_of_mem _ hq)) (red1_len hp h)
    refine ⟨row.getD p.1 0 / p.2.getD p.1 0, ih.cong fun j => ?_⟩
    rw [red1_get hp h]
    show row.getD j 0 - row.getD p.1 0 / p.2.getD p.1 0 * p.2.getD j 0 - (redT T (red1 p row)).getD j 0 = row.getD j 0 - (redT (p :: T) row).getD j 0 - row.getD p.1 0 / p.2.getD p.1 0 * p.2.getD j 0
    rw [redT_cons]
    omega
/-- columns that are zero in all pivots' rows stay -/
theorem redT_col {w : Nat} {j : Nat} : ∀ {T : Tops} {row : List Int}, (∀ p ∈ T, p.2.length = w ∧ p.2.getD j 0 = 0) → row.length = w → (redT T row).getD j 0 = row.getD j 0
  | [], _, _, _ => rfl
  | p :: T, row, hT, h => by
    obtain ⟨hp, h0⟩ := hT p (List.mem_cons_self ..)
    rw [redT_cons, redT_col (T := T) (row := red1 p row) (fun q hq => hT q (List.mem_cons_of_mem _ hq)) (red1_len hp h), red1_get hp h, h0, Int.mul_zero, Int.sub_zero]
theorem redT_before {w c : Nat} {T : Tops} {row : List Int} (E : Ech w T) (hc : ∀ p ∈ T, c < p.1) (h : row.length = w) {j : Nat} (hj : j ≤ c) : (redT T row).getD j 0 = row.getD j 0 :=
  redT_col (fun p hp => ⟨(E.pv p hp).len, (E.pv p hp).zero j (by have := hc p hp; omega)⟩) h
theorem redT_app : ∀ (T S : Tops) (row : List Int), redT (T ++ S) row = redT S (redT T row)
  | [], _, _ => rfl
  | p :: T, S, row => by
    rw [List.cons_append, redT_cons, redT_cons, redT_app]
theorem redT_skip {row : List Int} : ∀ {T : Tops}, (∀ p ∈ T, row.getD p.1 0 = 0) → redT T row = row
  | [], _ => rfl
  | p :: T, h => by
    have h0 := h p (List.mem_cons_self ..)
    have e : red1 p row = row := by
      unfold red1
      rw [h0, Int.zero_ediv, if_neg (fun z => z rfl)]
    rw [redT_cons, e]
    exact redT_skip fun q hq => h q (List.mem_cons_of_mem _ hq)
/-- behind the reduction each pivot's item is in its range -/
theorem redT_range {w : Nat} : ∀ {T : Tops} {row : List Int}, Ech w T → row.length = w → ∀ p ∈ T, 0 ≤ (redT T row).getD p.1 0 ∧ (redT T row).getD p.1 0 < p.2.getD p.1 0
  | q :: T, row, E, h, p, hp => by
    obtain ⟨hq, hl⟩ := E.head
    rw [redT_cons]
    rcases List.mem_cons.mp hp with rfl | hp
    · rw [redT_before E.tail hl (red1_len hq.len h) (Nat.le_refl _), red1_get hq.len h]
      have h1 := Int.emod_nonneg (row.getD p.1 0) (show p.2.getD p.1 0 ≠ 0 by have := hq.pos; omega)
      have h2 := Int.emod_lt_of_pos (row.getD p.1 0) hq.pos
      have h3 := Int.emod_def (row.getD p.1 0) (p.2.getD p.1 0)
      rw [Int.mul_comm] at h3
      omega
    · exact redT_range E.tail (red1_len hq.len h) p hp
theorem tidyT_keys : ∀ (T : Tops), (tidyT T).map (·.1) = T.map (·.1)
  | [] => rfl
  | p :: T => by
    show p.1 :: (tidyT T).map (·.1) = p.1 :: T.map (·.1)
    rw [tidyT_keys T]
theorem tidyT_len (T : Tops) : (tidyT T).length = T.length := by
  have := congrArg List.length (tidyT_keys T)
  rwa [List.length_map, List.length_map] at this
theorem keys_lt {c : Nat} {T S : Tops} (h : T.map (·.1) = S.map (·.1)) (hc : ∀ p ∈ S, c < p.1) : ∀ p ∈ T, c < p.1 := fun p hp => by
  have : p.1 ∈ S.map (·.1) := by rw [← h]; exact List.mem_map.mpr ⟨p, hp, rfl⟩
  obtain ⟨q, hq, e⟩ := List.mem_map.mp this
  rw [← e]
  exact hc q hq
theorem tidyT_ech {w : Nat} : ∀ {T : Tops}, Ech w T → Ech w (tidyT T)
  | [], E => E
  | p :: T, E => by
    obtain ⟨hp, hl⟩ := E.head
    have ih := tidyT_ech E.tail
    have hl' := keys_lt (tidyT_keys T) hl
    refine ih.cons ⟨hp.lt, redT_len (fun q hq => (ih.pv q hq).len) hp.len, fun j hj => ?_, ?_⟩ hl'
    · show (redT (tidyT T) p.2).getD j 0 = 0
      rw [redT_before ih hl' hp.len (show j ≤ p.1 by omega)]
      exact hp.zero j hj
    · show 0 < (redT (tidyT T) p.2).getD p.1 0
      rw [redT_before ih hl' hp.len (Nat.le_refl _)]
      exact hp.pos
theorem tidyT_tid {w : Nat} : ∀ {T : Tops}, Ech w T → Tid (tidyT T)
  | [], _ => trivial
  | p :: T, E => ⟨fun q hq => redT_range (tidyT_ech E.tail) E.head.1.len q hq, tidyT_tid E.tail⟩
theorem tidyT_span {w : Nat} : ∀ {T : Tops}, Ech w T → ∀ x, Spn (rowsT (tidyT T)) x ↔ Spn (rowsT T) x
  | [], _, x => Iff.rfl
  | p :: T, E, x => by
    have ih := tidyT_span E.tail
    obtain ⟨hp, hl⟩ := E.head
    have E' := tidyT_ech E.tail
    have hs := redT_span (T := tidyT T) (row := p.2) (fun q hq => (E'.pv q hq).len) hp.len
    constructor
    · refine Spn.sub fun r hr => ?_
      rcases List.mem_cons.mp hr with rfl | hr
      · have h1 := (Spn.head (rowsT T) p.2).add (((ih _).mp hs).smul (-1)).tail
        exact h1.cong fun j => by show p.2.getD j 0 + -1 * (p.2.getD j 0 - (redT (tidyT T) p.2).getD j 0) = (redT (tidyT T) p.2).getD j 0; omega
      · exact ((ih _).mp (Spn.mem hr)).tail
    · refine Spn.sub fun r hr => ?_
      rcases List.mem_cons.mp hr with rfl | hr
      · have h1 := (Spn.head (rowsT (tidyT T)) (redT (tidyT T) p.2)).add hs.tail
        exact h1.cong fun j => by show (redT (tidyT T) p.2).getD j 0 + (p.2.getD j 0 - (redT (tidyT T) p.2).getD j 0) = p.2.getD j 0; omega
      · exact ((ih _).mpr (Spn.mem hr)).tail
/-! ### sizes -/
def Cost (c : Nat) (r : List Int) : Prop := ∀ x ∈ r, 2 * x.natAbs < 2 ^ c
theorem Cost.at {c : Nat} {r : List Int} (h : Cost c r) (j : Nat) : 2 * (r.getD j 0).natAbs < 2 ^ c := by
  by_cases hj : j < r.length
  · rw [List.getD_eq_getElem?_getD, List.getElem?_eq_getElem hj]
    exact h _ (List.getElem_mem hj)
  · rw [getD_none (by omega)]
    exact Nat.pow_pos (by decide)
theorem Cost.up {c d : Nat} {r : List Int} (h : Cost c r) (hd : c ≤ d) : Cost d r := fun x hx => Nat.lt_of_lt_of_le (h x hx) (Nat.pow_le_pow_right (by decide) hd)
/-- a sum of two products -/
theorem cost_mix {a b x y : Int} {A B : Nat} (ha : 2 * a.natAbs < 2 ^ A) (hx : 2 * x.natAbs < 2 ^ B) (hb : 2 * b.natAbs < 2 ^ B) (hy : 2 * y.natAbs < 2 ^ A) : 2 * (a * x + b * y).natAbs < 2 ^ (A + B) := by
  have h1 : 4 * (a * x).natAbs < 2 ^ (A + B) := by
    rw [Nat.pow_add, Int.natAbs_mul]
    have := Nat.mul_lt_mul'' ha hx
    rw [show 2 * a.natAbs * (2 * x.natAbs) = 4 * (a.natAbs * x.natAbs) by rw [Nat.mul_mul_mul_comm]] at this
    exact this
  have h2 : 4 * (b * y).natAbs < 2 ^ (A + B) := by
    rw [Nat.pow_add, Nat.mul_comm (2 ^ A), Int.natAbs_mul]
    have := Nat.mul_lt_mul'' hb hy
    rw [show 2 * b.natAbs * (2 * y.natAbs) = 4 * (b.natAbs * y.natAbs) by rw [Nat.mul_mul_mul_comm]] at this
    exact this
  have h3 := Int.natAbs_add_le (a * x) (b * y)
  omega
theorem mixR_cost {a b : Int} {x y : List Int} {A B : Nat} (ha : 2 * a.natAbs < 2 ^ A) (hx : Cost B x) (hb : 2 * b.natAbs < 2 ^ B) (hy : Cost A y) : Cost (A + B) (mixR a x b y) := fun z hz => by
  unfold mixR at hz
  obtain ⟨i, ei⟩ := List.getElem?_of_mem hz
  rw [List.getElem?_zipWith] at ei
  cases e1 : x[i]? with
  | none => rw [e1] at ei; cases ei
  | some p =>
    cases e2 : y[i]? with
    | none => rw [e1, e2] at ei; cases ei
    | some q =>
      rw [e1, e2] at ei
      have ei : a * p + b * q = z := Option.some.inj ei
      rw [← ei]
      exact cost_mix ha (hx p (List.mem_of_getElem? e1)) hb (hy q (List.mem_of_getElem? e2))
theorem red1_cost {p : Nat × List Int} {row : List Int} {A B : Nat} (hp : Cost A p.2) (hr : Cost B row) (hpos : 0 < p.2.getD p.1 0) : Cost (A + B) (red1 p row) := by
  unfold red1
  split
  · have h1 : 2 * (1 : Int).natAbs < 2 ^ A ∨ ¬ 2 * (1 : Int).natAbs < 2 ^ A := Decidable.em _
    have hA : 2 * (p.2.getD p.1 0).natAbs < 2 ^ A := hp.at p.1
    have hq : 2 * (-(row.getD p.1 0 / p.2.getD p.1 0)).natAbs < 2 ^ B := by
      rw [Int.natAbs_neg]
      have := Int.natAbs_ediv_le_natAbs (row.getD p.1 0) (p.2.getD p.1 0)
      have := hr.at p.1
      omega
    exact mixR_cost (by have : 1 ≤ (p.2.getD p.1 0).natAbs := by omega
                        show 2 * 1 < _
                        omega) hr hq hp
  · exact hr.up (by omega)
/-- costs that double from the last row on -/
def Geo (B : Nat) : Tops → Prop
  | [] => True
  | p :: T => Cost (2 ^ T.length * B) p.2 ∧ Geo B T
theorem redT_geo {w B : Nat} : ∀ {T : Tops} {row : List Int} {ρ : Nat}, Ech w T → Geo B T → Cost ρ row → Cost (ρ + (2 ^ T.length - 1) * B) (redT T row)
  | [], row, ρ, _, _, h => by
    show Cost (ρ + (1 - 1) * B) row
    rw [Nat.sub_self, Nat.zero_mul]
    exact h
  | p :: T, row, ρ, E, g, h => by
    rw [redT_cons]
    refine (redT_geo E.tail g.2 (red1_cost g.1 h E.head.1.pos)).up ?_
    rw [List.length_cons, Nat.pow_succ]
    have h1 : 1 ≤ 2 ^ T.length := Nat.pow_pos (by decide)
    generalize 2 ^ T.length = k at h1
    rw [Nat.sub_mul, Nat.sub_mul]
    have : B ≤ k * B := Nat.le_mul_of_pos_left B h1
    rw [Nat.mul_right_comm, Nat.one_mul]
    omega
theorem redT_cost {w B : Nat} : ∀ {T : Tops} {row : List Int} {ρ : Nat}, Ech w T → (∀ p ∈ T, Cost B p.2) → Cost ρ row → Cost (ρ + T.length * B) (redT T row)
  | [], row, ρ, _, _, h => by
    show Cost (ρ + 0 * B) row
    rw [Nat.zero_mul]
    exact h
  | p :: T, row, ρ, E, g, h => by
    rw [redT_cons]
    refine (redT_cost E.tail (fun q hq => g q (List.mem_cons_of_mem _ hq)) (red1_cost (g p (List.mem_cons_self ..)) h E.head.1.pos)).up ?_
    rw [List.length_cons, Nat.add_mul]
    omega
theorem tidyT_geo {w B : Nat} : ∀ {T : Tops}, Ech w T → (∀ p ∈ T, Cost B p.2) → Geo B (tidyT T)
  | [], _, _ => trivial
  | p :: T, E, h => by
    have ih := tidyT_geo E.tail fun q hq => h q (List.mem_cons_of_mem _ hq)
    refine ⟨(redT_geo (tidyT_ech E.tail) ih (h p (List.mem_cons_self ..))).up ?_, ih⟩
    rw [tidyT_len]
    have h1 : 1 ≤ 2 ^ T.length := Nat.pow_pos (by decide)
    generalize 2 ^ T.length = k at h1
    rw [Nat.sub_mul]
    have : B ≤ k * B := Nat.le_mul_of_pos_left B h1
    omega
theorem Geo.all {B : Nat} : ∀ {T : Tops}, Geo B T → ∀ p ∈ T, Cost (2 ^ (T.length - 1) * B) p.2
  | q :: T, g, p, hp => by
    rcases List.mem_cons.mp hp with rfl | hp
    · exact g.1
    · refine (Geo.all g.2 p hp).up (Nat.mul_le_mul_right B (Nat.pow_le_pow_right (by decide) ?_))
      rw [List.length_cons]
      omega
theorem tidyT_cost {w B : Nat} {T : Tops} (E : Ech w T) (h : ∀ p ∈ T, Cost B p.2) : ∀ p ∈ tidyT T, Cost (2 ^ (T.length - 1) * B) p.2 := by
  have := (tidyT_geo E h).all
  rwa [tidyT_len] at this
end Gm
/-! one more row for the pivots -/
namespace Gm
def insK (j : Nat) (r : List Int) : Tops → Tops
  | [] => [(j, r)]
  | p :: T => if p.1 < j then p :: insK j r T else (j, r) :: p :: T
def setK (j : Nat) (t : List Int) (T : Tops) : Tops := T.map fun p => if p.1 = j then (j, t) else p
theorem mem_insK {j : Nat} {r : List Int} {q : Nat × List Int} : ∀ {T : Tops}, q ∈ insK j r T ↔ q = (j, r) ∨ q ∈ T
  | [] => by simp [insK]
  | p :: T => by
    unfold insK
    split
    · rw [List.mem_cons, mem_insK, List.mem_cons]
      constructor
      · rintro (h | h | h)
        · exact .inr (.inl h)
        · exact .inl h
        · exact .inr (.inr h)
      · rintro (h | h | h)
        · exact .inr (.inl h)
        · exact .inl h
        · exact .inr (.inr h)
    · rw [List.mem_cons]
theorem insK_len {j : Nat} {r : List Int} : ∀ {T : Tops}, (insK j r T).length = T.length + 1
  | [] => rfl
  | p :: T => by
    unfold insK
    split
    · rw [List.length_cons, insK_len, List.length_cons]
    · rfl
theorem insK_ech {w j : Nat} {r : List Int} : ∀ {T : Tops}, Ech w T → Pv w (j, r) → (∀ p ∈ T, p.1 ≠ j) → Ech w (insK j r T)
  | [], E, hp, _ => E.cons hp fun q hq => (by cases hq)
  | p :: T, E, hp, hn => by
    obtain ⟨h1, hl⟩ := E.head
    unfold insK
    split
    · rename_i hlt
      refine (insK_ech E.tail hp fun q hq => hn q (List.mem_cons_of_mem _ hq)).cons h1 fun q hq => ?_
      rcases mem_insK.mp hq with rfl | hq
      · exact hlt
      · exact hl q hq
    · rename_i hge
      have h2 := hn p (List.mem_cons_self ..)
      refine E.cons hp fun q hq => ?_
      rcases List.mem_cons.mp hq with rfl | hq
      · show j < q.1
        omega
      · have := hl q hq
        show j < q.1
        omega
theorem setK_keys (j : Nat) (t : List Int) (T : Tops) : (setK j t T).map (·.1) = T.map (·.1) := by
  unfold setK
  rw [List.map_map]
  refine List.map_congr_left fun p _ => ?_
  show (if p.1 = j then (j, t) else p).1 = p.1
  split
  · rename_i h
    exact h.symm
  · rfl
theorem setK_len (j : Nat) (t : List Int) (T : Tops) : (setK j t T).length = T.length := List.length_map ..
theorem mem_setK {j : Nat} {t : List Int} {T : Tops} {q : Nat × List Int} (h : q ∈ setK j t T) : q = (j, t) ∨ (q ∈ T ∧ q.1 ≠ j) := by
  obtain ⟨p, hp, rfl⟩ := List.mem_map.mp h
  show (if p.1 = j then (j, t) else p) = (j, t) ∨ _
  split
  · exact .inl rfl
  · rename_i hn
    exact .inr ⟨hp, hn⟩
theorem setK_at {j : Nat} {t : List Int} {T : Tops} {p : Nat × List Int} (h : p ∈ T) (e : p.1 = j) : (j, t) ∈ setK j t T := List.mem_map.mpr ⟨p, h, by rw [if_pos e]⟩
theorem setK_off {j : Nat} {t : List Int} {T : Tops} {p : Nat × List Int} (h : p ∈ T) (e : p.1 ≠ j) : p ∈ setK j t T := List.mem_map.mpr ⟨p, h, by rw [if_neg e]⟩
theorem setK_ech {w j : Nat} {t : List Int} {T : Tops} (E : Ech w T) (hp : Pv w (j, t)) : Ech w (setK j t T) := by
  refine ⟨?_, fun q hq => ?_⟩
  · have h := E.asc
    have h1 : (T.map (·.1)).Pairwise (· < ·) := List.pairwise_map.mpr h
    rw [← setK_keys j t T] at h1
    exact List.pairwise_map.mp h1
  · rcases mem_setK hq with rfl | ⟨h, _⟩
    · exact hp
    · exact E.pv q h
theorem key_one {w : Nat} {T : Tops} (E : Ech w T) {p q : Nat × List Int} (hp : p ∈ T) (hq : q ∈ T) (e : p.1 = q.1) : p = q := by
  induction T with
  | nil => cases hp
  | cons a T ih =>
    obtain ⟨_, hl⟩ := E.head
    rcases List.mem_cons.mp hp with rfl | hp1
    · rcases List.mem_cons.mp hq with rfl | hq
      · rfl
      · have := hl q hq
        omega
    · skip
      rcases List.mem_cons.mp hq with e1 | hq1
      · have := hl p hp1
        rw [e1] at e
        omega
      · exact ih E.tail hp1 hq1
/-! ### the number of the pivots from a column on -/
def cnt (j : Nat) (T : Tops) : Nat := (T.filter fun p => decide (j ≤ p.1)).length
theorem cnt_0 (T : Tops) : cnt 0 T = T.length := by
  unfold cnt
  rw [List.filter_eq_self.mpr fun p _ => decide_eq_true (Nat.zero_le _)]
theorem cnt_keys {j : Nat} {T S : Tops} (h : T.map (·.1) = S.map (·.1)) : cnt j T = cnt j S := by
  have e : ∀ T : Tops, cnt j T = ((T.map (·.1)).filter fun c => decide (j ≤ c)).length := fun T => by
    unfold cnt
    rw [List.filter_map, List.length_map]
    rfl
  rw [e, e, h]
theorem cnt_le (j : Nat) (T : Tops) : cnt j T ≤ T.length := List.length_filter_le ..
theorem cnt_step_off {j : Nat} {T : Tops} (h : ∀ p ∈ T, p.1 ≠ j) : cnt (j + 1) T = cnt j T := by
  unfold cnt
  rw [List.filter_congr fun p hp => ?_]
  have := h p hp
  exact decide_eq_decide.mpr (by omega)
theorem cnt_step_at {w j : Nat} : ∀ {T : Tops}, Ech w T → ∀ {p : Nat × List Int}, p ∈ T → p.1 = j → cnt j T = cnt (j + 1) T + 1
  | q :: T, E, p, hp, e => by
    obtain ⟨_, hl⟩ := E.head
    rcases List.mem_cons.mp hp with rfl | hp
    · have h1 : cnt (j + 1) T = cnt j T := cnt_step_off fun r hr => by have := hl r hr; omega
      unfold cnt at h1 ⊢
      rw [List.filter_cons, if_pos (decide_eq_true (by omega)), List.filter_cons, if_neg (by simpa using (show ¬ (j + 1 ≤ p.1) by omega)), List.length_cons, h1]
    · have ih := cnt_step_at E.tail hp e
      have h2 := hl p hp
      unfold cnt at ih ⊢
      rw [List.filter_cons, if_neg (by simpa using (show ¬ (j ≤ q.1) by omega)), List.filter_cons, if_neg (by simpa using (show ¬ (j + 1 ≤ q.1) by omega))]
      exact ih
theorem cnt_mono {j : Nat} (T : Tops) : cnt (j + 1) T ≤ cnt j T := by
  unfold cnt
  rw [← List.countP_eq_length_filter, ← List.countP_eq_length_filter]
  refine List.countP_mono_left fun p _ h => ?_
  have := of_decide_eq_true h
  exact decide_eq_true (by omega)
def tri : Nat → Nat
  | 0 => 0
  | n + 1 => tri n + (n + 1)
theorem tri_mono {a b : Nat} (h : a ≤ b) : tri a ≤ tri b := by
  induction b with
  | zero =>
    obtain rfl : a = 0 := by omega
    exact Nat.le_refl _
  | succ b ih =>
    by_cases e : a = b + 1
    · rw [e]
      exact Nat.le_refl _
    · have := ih (by omega)
      show tri a ≤ tri b + (b + 1)
      omega
/-- the size of a row when n pivots of k are left -/
def fB (B k n : Nat) : Nat := B * (1 + (tri k - tri n))
theorem fB_step {B k n : Nat} (h : n + 1 ≤ k) : fB B k (n + 1) + (n + 1) * B = fB B k n := by
  unfold fB
  have h1 := tri_mono h
  have h2 : tri (n + 1) = tri n + (n + 1) := rfl
  rw [Nat.mul_comm (n + 1) B, ← Nat.mul_add]
  congr 1
  omega
theorem fB_mono {B k n m : Nat} (h : n ≤ m) : fB B k m ≤ fB B k n := by
  unfold fB
  have := tri_mono h
  exact Nat.mul_le_mul_left B (by omega)
theorem fB_B {B k n : Nat} : B ≤ fB B k n := Nat.le_mul_of_pos_right B (by omega)
/-- what stands before the column j -/
structure WR (w B : Nat) (T0 : Tops) (r0 : List Int) (j : Nat) (T : Tops) (r : List Int) : Prop where
  E : Ech w T
  lr : r.length = w
  zr : ∀ i, i < j → r.getD i 0 = 0
  span : ∀ x, Spn (r :: rowsT T) x ↔ Spn (r0 :: rowsT T0) x
  keys : T.map (·.1) = T0.map (·.1)
  cr : Cost (fB B T0.length (cnt j T)) r
  cT : ∀ p ∈ T, j ≤ p.1 → Cost B p.2
  cA : ∀ p ∈ T, Cost (fB B T0.length 0) p.2
  col : ∀ d, (∀ p ∈ T0, p.2.getD d 0 = 0) → (∀ p ∈ T, j ≤ p.1 → p.2.getD d 0 = 0) ∧ (r0.getD d 0 ≠ 0 → r.getD d 0 ≠ 0)
theorem WR.start {w B : Nat} {T : Tops} {r : List Int} (E : Ech w T) (hr : r.length = w) (cT : ∀ p ∈ T, Cost B p.2) (cr : Cost B r) : WR w B T r 0 T r :=
  ⟨E, hr, fun i hi => absurd hi (Nat.not_lt_zero _), fun x => Iff.rfl, rfl, cr.up fB_B, fun p hp _ => cT p hp, fun p hp => (cT p hp).up fB_B, fun d h => ⟨fun p hp _ => h p hp, id⟩⟩
theorem WR.len {w B j : Nat} {T0 T : Tops} {r0 r : List Int} (h : WR w B T0 r0 j T r) : T.length = T0.length := by
  have := congrArg List.length h.keys
  rwa [List.length_map, List.length_map] at this
theorem WR.skip {w B j : Nat} {T0 T : Tops} {r0 r : List Int} (h : WR w B T0 r0 j T r) (hz : r.getD j 0 = 0) : WR w B T0 r0 (j + 1) T r := by
  refine ⟨h.E, h.lr, fun i hi => ?_, h.span, h.keys, h.cr.up (fB_mono (cnt_mono T)), fun p hp hj => h.cT p hp (by omega), h.cA, fun d hd => ⟨fun p hp hj => (h.col d hd).1 p hp (by omega), (h.col d hd).2⟩⟩
  by_cases e : i = j
  · rw [e]
    exact hz
  · exact h.zr i (by omega)
/-- the result -/
structure WRes (w B : Nat) (T0 : Tops) (r0 : List Int) (T : Tops) : Prop where
  E : Ech w T
  span : ∀ x, Spn (rowsT T) x ↔ Spn (r0 :: rowsT T0) x
  len : T.length = T0.length ∨ T.length = T0.length + 1
  cost : ∀ p ∈ T, Cost (B * (1 + tri T0.length)) p.2
  full : ∀ d, (∀ p ∈ T0, p.2.getD d 0 = 0) → r0.getD d 0 ≠ 0 → T.length = T0.length + 1
theorem fB_0 (B k : Nat) : fB B k 0 = B * (1 + tri k) := by
  unfold fB
  rfl
theorem WR.done {w B : Nat} {T0 T : Tops} {r0 r : List Int} (h : WR w B T0 r0 w T r) : WRes w B T0 r0 T := by
  have hz : ∀ j, r.getD j 0 = 0 := fun j => by
    by_cases hj : j < w
    · exact h.zr j hj
    · exact getD_none (by rw [h.lr]; omega)
  refine ⟨h.E, fun x => Iff.trans ⟨Spn.tail, fun ⟨a, ha⟩ => ha.cong fun j => by rw [hz, Int.mul_zero, Int.sub_zero]⟩ (h.span x), .inl h.len, fun p hp => by rw [← fB_0]; exact h.cA p hp, fun d hd hn => absurd (hz d) ((h.col d hd).2 hn)⟩
def normR (c : Nat) (row : List Int) : List Int := if 0 < row.getD c 0 then row else row.map fun z => -z
theorem neg_get (row : List Int) (j : Nat) : (row.map fun z => -z).getD j 0 = -row.getD j 0 := by
  rw [List.getD_eq_getElem?_getD, List.getElem?_map, List.getD_eq_getElem?_getD]
  cases row[j]? <;> rfl
theorem normR_len (c : Nat) (row : List Int) : (normR c row).length = row.length := by
  unfold normR
  split
  · rfl
  · exact List.length_map ..
theorem normR_get (c : Nat) (row : List Int) : ∃ s : Int, (s = 1 ∨ s = -1) ∧ (∀ j, (normR c row).getD j 0 = s * row.getD j 0) := by
  unfold normR
  split
  · exact ⟨1, .inl rfl, fun j => (Int.one_mul _).symm⟩
  · exact ⟨-1, .inr rfl, fun j => by rw [neg_get]; omega⟩
theorem WR.insert {w B j : Nat} {T0 T : Tops} {r0 r : List Int} (h : WR w B T0 r0 j T r) (hj : j < w) (hn : r.getD j 0 ≠ 0) (hk : ∀ p ∈ T, p.1 ≠ j) : WRes w B T0 r0 (insK j (normR j r) T) := by
  obtain ⟨s, hs, hg⟩ := normR_get j r
  have hp : Pv w (j, normR j r) := by
    refine ⟨hj, by rw [normR_len]; exact h.lr, fun i hi => ?_, ?_⟩
    · show (normR j r).getD i 0 = 0
      rw [hg, h.zr i hi, Int.mul_zero]
    · show 0 < (normR j r).getD j 0
      unfold normR
      split
      · assumption
      · rw [neg_get]
        omega
  have hcn : Cost (fB B T0.length (cnt j T)) (normR j r) := by
    unfold normR
    split
    · exact h.cr
    · intro x hx
      obtain ⟨y, hy, rfl⟩ := List.mem_map.mp hx
      rw [Int.natAbs_neg]
      exact h.cr y hy
  refine ⟨insK_ech h.E hp hk, fun x => Iff.trans ?_ (h.span x), .inr (by rw [insK_len, h.len]), fun p hp => ?_, fun d _ _ => by rw [insK_len, h.len]⟩
  · constructor
    · refine Spn.sub fun q hq => ?_
      obtain ⟨p, hp, rfl⟩ := List.mem_map.mp hq
      rcases mem_insK.mp hp with rfl | hp
      · exact ((Spn.head (rowsT T) r).smul s).cong fun i => (hg i).symm
      · exact (Spn.mem (List.mem_map.mpr ⟨p, hp, rfl⟩)).tail
    · refine Spn.sub fun q hq => ?_
      rcases List.mem_cons.mp hq with rfl | hq
      · have := (Spn.mem (R := rowsT (insK j (normR j q) T)) (r := normR j q) (List.mem_map.mpr ⟨(j, normR j q), mem_insK.mpr (.inl rfl), rfl⟩)).smul s
        refine this.cong fun i => ?_
        show s * (normR j q).getD i 0 = q.getD i 0
        rw [hg]
        rcases hs with rfl | rfl <;> omega
      · obtain ⟨p, hp, rfl⟩ := List.mem_map.mp hq
        exact Spn.mem (List.mem_map.mpr ⟨p, mem_insK.mpr (.inr hp), rfl⟩)
  · rw [← fB_0]
    rcases mem_insK.mp hp with rfl | hp
    · exact hcn.up (fB_mono (Nat.zero_le _))
    · exact h.cA p hp
/-- what cofactors tells -/
structure Cof (a b g u v : Int) : Prop where
  pos : 0 < g
  eq : g = u * a + v * b
  da : g ∣ a
  db : g ∣ b
  ub : u.natAbs ≤ b.natAbs
  vb : v.natAbs ≤ a.natAbs
theorem WR.merge {w B j : Nat} {T0 T : Tops} {r0 r t : List Int} {g u v : Int} (h : WR w B T0 r0 j T r) (hj : j < w) (hn : r.getD j 0 ≠ 0) (ht : (j, t) ∈ T) (c : Cof (t.getD j 0) (r.getD j 0) g u v) :
    WR w B T0 r0 (j + 1) (setK j (mixR u t v r) T) (redT (setK j (mixR u t v r) T) (mixR (t.getD j 0 / g) r (-(r.getD j 0 / g)) t)) ∧
    Cost (fB B T0.length 0) (mixR u t v r) ∧ Cost (fB B T0.length 0) (mixR (t.getD j 0 / g) r (-(r.getD j 0 / g)) t) := by
  have hpv := h.E.pv _ ht
  have lt : t.length = w := hpv.len
  have lr := h.lr
  have cB : Cost B t := h.cT _ ht (Nat.le_refl _)
  have hn1 : cnt j T = cnt (j + 1) T + 1 := cnt_step_at h.E ht rfl
  have hnk : cnt (j + 1) T + 1 ≤ T0.length := by rw [← hn1, ← h.len]; exact cnt_le j T
  have stp := fB_step (B := B) hnk
  rw [← hn1] at stp
  obtain ⟨α, ha⟩ := c.da
  obtain ⟨β, hb⟩ := c.db
  have g0 := c.pos
  have ea : t.getD j 0 / g = α := by rw [ha, Int.mul_ediv_cancel_left _ (by omega)]
  have eb : r.getD j 0 / g = β := by rw [hb, Int.mul_ediv_cancel_left _ (by omega)]
  have det : u * α + v * β = 1 := by
    have := c.eq
    rw [ha, hb] at this
    refine Int.eq_of_mul_eq_mul_left (show g ≠ 0 by omega) ?_
    rw [Int.mul_one]
    grind
  rw [ea, eb]
  have l1 : (mixR u t v r).length = w := mixR_len lt lr
  have l2 : (mixR α r (-β) t).length = w := mixR_len lr lt
  have g1 := mixR_get (a := u) (b := v) lt lr
  have g2 := mixR_get (a := α) (b := -β) lr lt
  have ca : 2 * α.natAbs < 2 ^ B := by
    have h1 := cB.at j
    have h2 : α.natAbs ≤ (t.getD j 0).natAbs := by rw [← ea]; exact Int.natAbs_ediv_le_natAbs _ _
    omega
  have cb : 2 * (-β).natAbs < 2 ^ fB B T0.length (cnt j T) := by
    have h1 := h.cr.at j
    have h2 : β.natAbs ≤ (r.getD j 0).natAbs := by rw [← eb]; exact Int.natAbs_ediv_le_natAbs _ _
    rw [Int.natAbs_neg]
    omega
  have c1 : Cost (fB B T0.length (cnt j T) + B) (mixR u t v r) := by
    have h1 := c.ub
    have h2 := c.vb
    have h3 := h.cr.at j
    have h4 := cB.at j
    exact mixR_cost (by omega) cB (by omega) h.cr
  have c2 : Cost (B + fB B T0.length (cnt j T)) (mixR α r (-β) t) := mixR_cost ca h.cr cb cB
  have hBn : B ≤ cnt j T * B := Nat.le_mul_of_pos_left B (by omega)
  have top0 : fB B T0.length (cnt j T) + B ≤ fB B T0.length 0 := by
    have := fB_mono (B := B) (k := T0.length) (Nat.zero_le (cnt (j + 1) T))
    omega
  have hz2 : ∀ i, i ≤ j → (mixR α r (-β) t).getD i 0 = 0 := fun i hi => by
    rw [g2]
    by_cases e : i = j
    · rw [e, ha, hb]
      grind
    · rw [h.zr i (by omega), hpv.zero i (by show i < j; omega), Int.mul_zero, Int.mul_zero]
      rfl
  have hp : Pv w (j, mixR u t v r) := by
    refine ⟨hj, l1, fun i hi => ?_, ?_⟩
    · show (mixR u t v r).getD i 0 = 0
      rw [g1, h.zr i hi, hpv.zero i hi, Int.mul_zero, Int.mul_zero]
      rfl
    · show 0 < (mixR u t v r).getD j 0
      rw [g1, ← c.eq]
      exact g0
  have E' := setK_ech (t := mixR u t v r) h.E hp
  have lT : ∀ p ∈ setK j (mixR u t v r) T, p.2.length = w := fun p hp => (E'.pv p hp).len
  -- only the pivots behind j count
  obtain ⟨S, hS⟩ : ∃ S, setK j (mixR u t v r) T = S := ⟨_, rfl⟩
  rw [hS] at E' lT
  have hkeys : S.map (·.1) = T.map (·.1) := by rw [← hS]; exact setK_keys ..
  have split : ∀ {S : Tops}, Ech w S → ∃ S1 S2, S = S1 ++ S2 ∧ (∀ p ∈ S1, p.1 ≤ j) ∧ (∀ p ∈ S2, j < p.1) ∧ Ech w S2 ∧ S2.length = cnt (j + 1) S := fun {S} E => by
    induction S with
    | nil => exact ⟨[], [], rfl, fun p hp => (by cases hp), fun p hp => (by cases hp), E, rfl⟩
    | cons q S ih =>
      by_cases hq : q.1 ≤ j
      · obtain ⟨S1, S2, e, h1, h2, h3, h4⟩ := ih E.tail
        refine ⟨q :: S1, S2, by rw [e]; rfl, fun p hp => ?_, h2, h3, ?_⟩
        · rcases List.mem_cons.mp hp with rfl | hp
          · exact hq
          · exact h1 p hp
        · unfold cnt at h4 ⊢
          rw [List.filter_cons, if_neg (by simpa using (show ¬ (j + 1 ≤ q.1) by omega))]
          exact h4
      · obtain ⟨_, hl⟩ := E.head
        have hall : ∀ p ∈ q :: S, j < p.1 := fun p hp => by
          rcases List.mem_cons.mp hp with rfl | hp
          · omega
          · have := hl p hp
            omega
        refine ⟨[], q :: S, rfl, fun p hp => (by cases hp), hall, E, ?_⟩
        unfold cnt
        rw [List.filter_eq_self.mpr fun p hp => decide_eq_true (show j + 1 ≤ p.1 from hall p hp)]
  obtain ⟨S1, S2, eS, hS1, hS2, E2, n2⟩ := split E'
  have er : redT S (mixR α r (-β) t) = redT S2 (mixR α r (-β) t) := by
    rw [eS, redT_app, redT_skip fun p hp => hz2 p.1 (hS1 p hp)]
  have cS2 : ∀ p ∈ S2, Cost B p.2 := fun p hp => by
    have h1 : p ∈ setK j (mixR u t v r) T := by rw [hS, eS]; exact List.mem_append_right _ hp
    rcases mem_setK h1 with rfl | ⟨h2, _⟩
    · exact absurd (hS2 _ hp) (Nat.lt_irrefl _)
    · exact h.cT p h2 (Nat.le_of_lt (hS2 p hp))
  have n2' : S2.length = cnt (j + 1) T := by rw [n2]; exact cnt_keys hkeys
  have hlS : ∀ p ∈ S2, p.2.length = w := fun p hp => (E2.pv p hp).len
  rw [hS]
  refine ⟨⟨E', redT_len lT l2, fun i hi => ?_, fun x => Iff.trans ?_ (h.span x), hkeys.trans h.keys, ?_, fun p hp hjp => ?_, fun p hp => ?_, fun d hd => ?_⟩, c1.up top0, c2.up (by omega)⟩
  · rw [er, redT_before E2 hS2 l2 (show i ≤ j by omega)]
    exact hz2 i (by omega)
  · -- the span
    have hs := redT_span lT l2
    have mt : (mixR u t v r) ∈ rowsT S := by
      rw [← hS]
      exact List.mem_map.mpr ⟨_, setK_at ht rfl, rfl⟩
    constructor
    · refine Spn.sub fun q hq => ?_
      have mS : ∀ q ∈ rowsT S, Spn (r :: rowsT T) (fun j => q.getD j 0) := fun q hq => by
        rw [← hS] at hq
        obtain ⟨p, hp, rfl⟩ := List.mem_map.mp hq
        rcases mem_setK hp with rfl | ⟨hp, _⟩
        · have k1 := ((Spn.mem (R := rowsT T) (List.mem_map.mpr ⟨_, ht, rfl⟩)).tail (r := r)).smul u
          have k2 := (Spn.head (rowsT T) r).smul v
          exact (k1.add k2).cong fun i => (g1 i).symm
        · exact (Spn.mem (List.mem_map.mpr ⟨p, hp, rfl⟩)).tail
      rcases List.mem_cons.mp hq with rfl | hq
      · have k1 := ((Spn.mem (R := rowsT T) (List.mem_map.mpr ⟨_, ht, rfl⟩)).tail (r := r)).smul (-β)
        have k2 := (Spn.head (rowsT T) r).smul α
        have k3 := (Spn.sub mS hs).smul (-1)
        refine ((k2.add k1).add k3).cong fun i => ?_
        have := g2 i
        show α * r.getD i 0 + -β * t.getD i 0 + -1 * ((mixR α r (-β) t).getD i 0 - (redT S (mixR α r (-β) t)).getD i 0) = (redT S (mixR α r (-β) t)).getD i 0
        omega
      · exact mS q hq
    · refine Spn.sub fun q hq => ?_
      have k0 : Spn (redT S (mixR α r (-β) t) :: rowsT S) (fun i => (mixR α r (-β) t).getD i 0) :=
        ((Spn.head (rowsT S) (redT S (mixR α r (-β) t))).add hs.tail).cong fun i => by
          show (redT S (mixR α r (-β) t)).getD i 0 + ((mixR α r (-β) t).getD i 0 - (redT S (mixR α r (-β) t)).getD i 0) = (mixR α r (-β) t).getD i 0
          omega
      have k1 : Spn (redT S (mixR α r (-β) t) :: rowsT S) (fun i => (mixR u t v r).getD i 0) := (Spn.mem mt).tail
      rcases List.mem_cons.mp hq with rfl | hq
      · refine ((k1.smul β).add (k0.smul u)).cong fun i => ?_
        show β * (mixR u t v q).getD i 0 + u * (mixR α q (-β) t).getD i 0 = q.getD i 0
        rw [g1, g2]
        have : (u * α + v * β) * q.getD i 0 = q.getD i 0 := by rw [det, Int.one_mul]
        grind
      · obtain ⟨p, hp, rfl⟩ := List.mem_map.mp hq
        by_cases e : p.1 = j
        · have ep : p = (j, t) := key_one h.E hp ht e
          subst ep
          refine ((k1.smul α).add (k0.smul (-v))).cong fun i => ?_
          show α * (mixR u t v r).getD i 0 + -v * (mixR α r (-β) t).getD i 0 = t.getD i 0
          rw [g1, g2]
          have : (u * α + v * β) * t.getD i 0 = t.getD i 0 := by rw [det, Int.one_mul]
          grind
        · refine (Spn.mem (List.mem_map.mpr ⟨p, ?_, rfl⟩)).tail
          rw [← hS]
          exact setK_off hp e
  · -- the size of the row
    rw [er, cnt_keys hkeys]
    refine (redT_cost E2 cS2 c2).up ?_
    rw [n2']
    have e1 : (cnt j T) * B = cnt (j + 1) T * B + B := by rw [hn1, Nat.add_mul, Nat.one_mul]
    omega
  · have h1 : p ∈ setK j (mixR u t v r) T := by rw [hS]; exact hp
    rcases mem_setK h1 with rfl | ⟨h2, _⟩
    · exact absurd hjp (by show ¬ j + 1 ≤ j; omega)
    · exact h.cT p h2 (by omega)
  · have h1 : p ∈ setK j (mixR u t v r) T := by rw [hS]; exact hp
    rcases mem_setK h1 with rfl | ⟨h2, _⟩
    · exact c1.up top0
    · exact h.cA p h2
  · obtain ⟨k1, k2⟩ := h.col d hd
    have hS2d : ∀ p ∈ S2, p.2.length = w ∧ p.2.getD d 0 = 0 := fun p hp => by
      have h1 : p ∈ setK j (mixR u t v r) T := by rw [hS, eS]; exact List.mem_append_right _ hp
      rcases mem_setK h1 with rfl | ⟨h2, _⟩
      · exact absurd (hS2 _ hp) (Nat.lt_irrefl _)
      · exact ⟨hlS p hp, k1 p h2 (Nat.le_of_lt (hS2 p hp))⟩
    refine ⟨fun p hp hjp => ?_, fun hr0 => ?_⟩
    · have h1 : p ∈ setK j (mixR u t v r) T := by rw [hS]; exact hp
      rcases mem_setK h1 with rfl | ⟨h2, _⟩
      · exact absurd hjp (by show ¬ j + 1 ≤ j; omega)
      · exact k1 p h2 (by omega)
    · rw [er, redT_col hS2d l2, g2, k1 _ ht (Nat.le_refl _), Int.mul_zero, Int.add_zero]
      refine Int.mul_ne_zero ?_ (k2 hr0)
      intro e
      rw [e, Int.mul_zero] at ha
      have := hpv.pos
      have h9 : 0 < t.getD j 0 := this
      omega
end Gm
/-! a dict of rows by columns -/
namespace Gm
open PySem PySem.Spec PyProof.Rows L2
def keyT (T : Tops) : List Key := T.map fun p => Sum.inl (p.1 : Int)
/-- at a there is a dict whose keys are the columns of the pivots -/
def DT (K : Frag) (H : Hp) (a : Addr) (T : Tops) : Prop := ∃ kvs : List (Key × V), H a = some (.dK kvs) ∧ (kvs.map (·.1)).Perm (keyT T) ∧ ∀ p ∈ T, ∃ v, valV kvs (Sum.inl (p.1 : Int)) = some v ∧ TRow K H v p.2
theorem DT.same {K : Frag} {H H' : Hp} {a : Addr} {T : Tops} (s : Same H H') (h : DT K H a T) : DT K H' a T :=
  let ⟨kvs, e, pk, hv⟩ := h; ⟨kvs, s _ _ e, pk, fun p hp => let ⟨v, ev, hr⟩ := hv p hp; ⟨v, ev, TRow.same s hr⟩⟩
theorem DT.nil {K : Frag} {H : Hp} {a : Addr} : DT K (upd H a (.dK [])) a [] := ⟨[], upd_same, List.Perm.nil, fun p hp => (by cases hp)⟩
theorem keyT_mem {T : Tops} {j : Nat} : Sum.inl (j : Int) ∈ keyT T ↔ ∃ p ∈ T, p.1 = j := by
  unfold keyT
  rw [List.mem_map]
  constructor
  · rintro ⟨p, hp, e⟩
    refine ⟨p, hp, ?_⟩
    have := Sum.inl.inj e
    omega
  · rintro ⟨p, hp, rfl⟩
    exact ⟨p, hp, rfl⟩
theorem DT.get {K : Frag} {H : Hp} {a : Addr} {T : Tops} {p : Nat × List Int} (h : DT K H a T) (hp : p ∈ T) : ∃ v, DGet H a (.int (p.1 : Int)) (some v) ∧ TRow K H v p.2 := by
  obtain ⟨kvs, e, pk, hv⟩ := h
  obtain ⟨v, ev, hr⟩ := hv p hp
  exact ⟨v, .inl ⟨kvs, Sum.inl (p.1 : Int), .inl e, rfl, ev.symm⟩, hr⟩
theorem DT.has {K : Frag} {H : Hp} {a : Addr} {T : Tops} (h : DT K H a T) (j : Nat) : ∃ o, DGet H a (.int (j : Int)) o ∧ (o.isSome = true ↔ ∃ p ∈ T, p.1 = j) := by
  obtain ⟨kvs, e, pk, hv⟩ := h
  refine ⟨valV kvs (Sum.inl (j : Int)), .inl ⟨kvs, Sum.inl (j : Int), .inl e, rfl, rfl⟩, ?_⟩
  rw [← keyT_mem, ← pk.mem_iff]
  constructor
  · intro hs
    cases hval : valV kvs (Sum.inl (j : Int)) with
    | none => rw [hval] at hs; cases hs
    | some v => exact valV_in hval
  · intro hm
    cases hval : valV kvs (Sum.inl (j : Int)) with
    | none => exact absurd hm (valV_not hval)
    | some v => rfl
theorem DT.len {K : Frag} {H : Hp} {a : Addr} {T : Tops} {kvs : List (Key × V)} (e : H a = some (.dK kvs)) (h : DT K H a T) : kvs.length = T.length := by
  obtain ⟨kvs', e', pk, _⟩ := h
  rw [e] at e'
  cases e'
  have := pk.length_eq
  unfold keyT at this
  rw [List.length_map, List.length_map] at this
  exact this
theorem putK_keys_old {kvs : List (Key × V)} {k : Key} {v : V} (h : valV kvs k ≠ none) : (putK kvs k v).map (·.1) = kvs.map (·.1) := by
  unfold putK
  rw [if_pos (by rw [valV_any]; exact Option.isSome_iff_ne_none.mpr h), List.map_map]
  refine List.map_congr_left fun p _ => ?_
  show (if p.1 = k then (p.1, v) else p).1 = p.1
  split <;> rfl
/-- a row in the place of another -/
theorem DT.set {K : Frag} {H : Hp} {a : Addr} {T : Tops} {j : Nat} {t' : List Int} {v : V} (h : DT K H a T) (hl : T.length < 1000) (hj : ∃ p ∈ T, p.1 = j) (hv : TRow K H v t') : ∃ H', DPut H a (.int (j : Int)) v H' ∧ DT K H' a (setK j t' T) ∧ ∀ b o, b ≠ a → H b = some o → H' b = some o := by
  have hlen := fun {kvs} e => DT.len (kvs := kvs) e h
  obtain ⟨kvs, e, pk, hval⟩ := h
  have hsz : kvs.length < sizeLine := by rw [hlen e]; exact small1000 (by omega)
  have hold : valV kvs (Sum.inl (j : Int)) ≠ none := fun z => by
    obtain ⟨p, hp, rfl⟩ := hj
    obtain ⟨w, ew, _⟩ := hval p hp
    rw [z] at ew
    cases ew
  have hoff : ∀ b o, b ≠ a → H b = some o → (upd H a (.dK (putK kvs (Sum.inl (j : Int)) v))) b = some o := fun b o n x => by rw [L2.upd_ne n]; exact x
  have hrow : ∀ {w : V} {r : List Int}, TRow K H w r → TRow K (upd H a (.dK (putK kvs (Sum.inl (j : Int)) v))) w r := fun {w r} ⟨b, eb, hb⟩ => by
    refine ⟨b, eb, ?_⟩
    rcases hb with (hb | ⟨o, hb⟩) | hb
    · exact .inl (.inl (hoff _ _ (ne_of hb e (by intro z; cases z)) hb))
    · exact .inl (.inr ⟨o, hoff _ _ (ne_of hb e (by intro z; cases z)) hb⟩)
    · exact .inr hb
  refine ⟨_, DPut.k (k := Sum.inl (j : Int)) e hsz, ⟨_, upd_same, ?_, fun p hp => ?_⟩, hoff⟩
  · rw [putK_keys_old hold]
    have : keyT (setK j t' T) = keyT T := by
      unfold keyT
      have := setK_keys j t' T
      have e2 : ∀ S : Tops, (S.map fun p => (Sum.inl (p.1 : Int) : Key)) = (S.map (fun p => p.1)).map fun (c : Nat) => (Sum.inl (c : Int) : Key) := fun S => by rw [List.map_map]; rfl
      rw [e2, e2, this]
    rw [this]
    exact pk
  · rw [valV_put]
    rcases mem_setK hp with rfl | ⟨hp, hn⟩
    · exact ⟨v, by rw [if_pos rfl], hrow hv⟩
    · obtain ⟨w, ew, hr⟩ := hval p hp
      refine ⟨w, ?_, hrow hr⟩
      rw [if_neg fun z => hn (by have := Sum.inl.inj z; omega)]
      exact ew
/-- one more row -/
theorem DT.ins {K : Frag} {H : Hp} {a : Addr} {T S : Tops} {j : Nat} {t' : List Int} {v : V} (h : DT K H a T) (hl : T.length < 1000) (hj : ∀ p ∈ T, p.1 ≠ j) (hv : TRow K H v t') (hS : S.Perm ((j, t') :: T)) : ∃ H', DPut H a (.int (j : Int)) v H' ∧ DT K H' a S ∧ ∀ b o, b ≠ a → H b = some o → H' b = some o := by
  have hlen := fun {kvs} e => DT.len (kvs := kvs) e h
  obtain ⟨kvs, e, pk, hval⟩ := h
  have hsz : kvs.length < sizeLine := by rw [hlen e]; exact small1000 (by omega)
  have hnew : valV kvs (Sum.inl (j : Int)) = none := by
    cases hv : valV kvs (Sum.inl (j : Int)) with
    | none => rfl
    | some v =>
      have := pk.mem_iff.mp (valV_in hv)
      obtain ⟨p, hp, ep⟩ := keyT_mem.mp this
      exact absurd ep (hj p hp)
  have hoff : ∀ b o, b ≠ a → H b = some o → (upd H a (.dK (putK kvs (Sum.inl (j : Int)) v))) b = some o := fun b o n x => by rw [L2.upd_ne n]; exact x
  have hrow : ∀ {w : V} {r : List Int}, TRow K H w r → TRow K (upd H a (.dK (putK kvs (Sum.inl (j : Int)) v))) w r := fun {w r} ⟨b, eb, hb⟩ => by
    refine ⟨b, eb, ?_⟩
    rcases hb with (hb | ⟨o, hb⟩) | hb
    · exact .inl (.inl (hoff _ _ (ne_of hb e (by intro z; cases z)) hb))
    · exact .inl (.inr ⟨o, hoff _ _ (ne_of hb e (by intro z; cases z)) hb⟩)
    · exact .inr hb
  refine ⟨_, DPut.k (k := Sum.inl (j : Int)) e hsz, ⟨_, upd_same, ?_, fun p hp => ?_⟩, hoff⟩
  · rw [putK_new v hnew, List.map_append]
    have h1 : (keyT S).Perm (keyT ((j, t') :: T)) := hS.map _
    refine List.Perm.trans ?_ h1.symm
    show ((kvs.map fun (kv : Key × V) => kv.1) ++ [(Sum.inl (j : Int) : Key)]).Perm ((Sum.inl (j : Int) : Key) :: keyT T)
    exact (List.perm_append_comm).trans (List.Perm.cons _ pk)
  · rw [valV_put]
    have hp := hS.mem_iff.mp hp
    rcases List.mem_cons.mp hp with rfl | hp
    · exact ⟨v, by rw [if_pos rfl], hrow hv⟩
    · obtain ⟨w, ew, hr⟩ := hval p hp
      refine ⟨w, ?_, hrow hr⟩
      rw [if_neg fun z => hj p hp (by have := Sum.inl.inj z; omega)]
      exact ew
theorem insK_perm {j : Nat} {r : List Int} : ∀ {T : Tops}, (insK j r T).Perm ((j, r) :: T)
  | [] => List.Perm.refl _
  | p :: T => by
    unfold insK
    split
    · exact (List.Perm.cons p insK_perm).trans (List.Perm.swap ..)
    · exact List.Perm.refl _
/-! ### sorted -/
theorem sorted_uniq : ∀ {xs ys : List Int}, xs.Perm ys → xs.Pairwise (· ≤ ·) → ys.Pairwise (· ≤ ·) → xs = ys
  | [], ys, h, _, _ => (List.nil_perm.mp h).symm
  | x :: xs, [], h, _, _ => (List.perm_nil.mp h)
  | x :: xs, y :: ys, h, hx, hy => by
    obtain ⟨hx1, hx2⟩ := List.pairwise_cons.mp hx
    obtain ⟨hy1, hy2⟩ := List.pairwise_cons.mp hy
    have e : x = y := by
      have h1 : x ∈ y :: ys := h.mem_iff.mp (List.mem_cons_self ..)
      have h2 : y ∈ x :: xs := h.mem_iff.mpr (List.mem_cons_self ..)
      rcases List.mem_cons.mp h1 with e | h1
      · exact e
      · rcases List.mem_cons.mp h2 with e | h2
        · exact e.symm
        · have := hx1 y h2
          have := hy1 x h1
          omega
    subst e
    rw [sorted_uniq (List.Perm.cons_inv h) hx2 hy2]
def colT (T : Tops) : List Int := T.map fun p => (p.1 : Int)
theorem colT_asc {w : Nat} {T : Tops} (E : Ech w T) : (colT T).Pairwise (· ≤ ·) := by
  unfold colT
  rw [List.pairwise_map]
  exact E.asc.imp fun h => by omega
theorem DT.keys {K : Frag} {H : Hp} {a : Addr} {T : Tops} (h : DT K H a T) : ∃ (kvs : List (Key × V)) (ks : List Int), Rd H a (.dK kvs) ∧ kvs.map (·.1) = ks.map Sum.inl ∧ ks.Perm (colT T) := by
  obtain ⟨kvs, e, pk, _⟩ := h
  have ex : ∀ l : List Key, (∀ k ∈ l, ∃ i : Int, k = Sum.inl i) → ∃ ks : List Int, l = ks.map Sum.inl := fun l => by
    induction l with
    | nil => intro _; exact ⟨[], rfl⟩
    | cons k l ih =>
      intro hh
      obtain ⟨i, rfl⟩ := hh k (List.mem_cons_self ..)
      obtain ⟨ks, e⟩ := ih fun k hk => hh k (List.mem_cons_of_mem _ hk)
      exact ⟨i :: ks, by rw [e]; rfl⟩
  obtain ⟨ks, eks⟩ := ex (kvs.map (·.1)) fun k hk => by
    have := pk.mem_iff.mp hk
    obtain ⟨p, _, rfl⟩ := List.mem_map.mp this
    exact ⟨_, rfl⟩
  refine ⟨kvs, ks, .inl e, eks, ?_⟩
  rw [eks] at pk
  have h2 : (ks.map (Sum.inl : Int → Key)).Perm ((colT T).map Sum.inl) := by
    unfold colT
    rw [List.map_map]
    exact pk
  have h3 := h2.filterMap (fun k : Key => match k with | .inl i => some i | .inr _ => none)
  rw [List.filterMap_map, List.filterMap_map] at h3
  have e3 : ∀ l : List Int, l.filterMap ((fun k : Key => match k with | .inl i => some i | .inr _ => none) ∘ Sum.inl) = l := fun l => by
    induction l with
    | nil => rfl
    | cons i l ih => rw [List.filterMap_cons]; show i :: _ = _; rw [ih]
  rw [e3, e3] at h3
  exact h3
theorem cols_eq {w : Nat} {T : Tops} {ks ys : List Int} (E : Ech w T) (hk : ks.Perm (colT T)) (hy : ys.Perm ks) (ho : ys.Pairwise (· ≤ ·)) : ys = colT T := sorted_uniq (hy.trans hk) ho (colT_asc E)
theorem cols_rev {w : Nat} {T : Tops} {ks ys : List Int} (E : Ech w T) (hk : ks.Perm (colT T)) (hy : ys.Perm ks) (ho : OrdB true ys) : ys = (colT T).reverse := by
  have h1 : ys.reverse.Pairwise (· ≤ ·) := by
    rw [List.pairwise_reverse]
    exact ho
  have h2 := sorted_uniq ((List.reverse_perm ys).trans (hy.trans hk)) h1 (colT_asc E)
  rw [← h2, List.reverse_reverse]
end Gm
namespace K06
open PySem PySem.Spec PyProof.Rows L2 Gm
def topS (i : Nat) : Stmt := PySem.Challenge.pw_gridmetric_k06_primitive_matrices.main.body.getD i (.Pass ⟨0, 0, 0, 0⟩)
abbrev s_is_integer : Stmt := topS 5
theorem sc_is_integer : FnScope ["value"] ["value"] (defScope s_is_integer) := ⟨rfl, rfl, rfl, by decide +kernel, rfl, by decide +kernel, by decide +kernel⟩
abbrev s_cofactors : Stmt := topS 6
theorem sc_cofactors : FnScope ["a", "b", "last", "last_u", "last_v", "g", "u", "v", "times"] ["a", "b"] (defScope s_cofactors) := ⟨rfl, rfl, rfl, by decide +kernel, rfl, by decide +kernel, by decide +kernel⟩
abbrev s_hermite_rows : Stmt := topS 9
theorem sc_hermite_rows : FnScope ["rows", "tops", "row", "column"] ["rows"] (defScope s_hermite_rows) := ⟨rfl, rfl, rfl, by decide +kernel, rfl, by decide +kernel, by decide +kernel⟩
abbrev s_with_row : Stmt := topS 10
theorem sc_with_row : FnScope ["tops", "row", "found", "column", "top", "item"] ["tops", "row"] (defScope s_with_row) := ⟨rfl, rfl, rfl, by decide +kernel, rfl, by decide +kernel, by decide +kernel⟩
abbrev s_merged : Stmt := topS 11
theorem sc_merged : FnScope ["top", "row", "column", "g", "u", "v"] ["top", "row", "column"] (defScope s_merged) := ⟨rfl, rfl, rfl, by decide +kernel, rfl, by decide +kernel, by decide +kernel⟩
abbrev s_mixed : Stmt := topS 12
theorem sc_mixed : FnScope ["a", "first", "b", "second", "x", "y"] ["a", "first", "b", "second"] (defScope s_mixed) := ⟨rfl, rfl, rfl, by decide +kernel, rfl, by decide +kernel, by decide +kernel⟩
abbrev s_tidied : Stmt := topS 13
theorem sc_tidied : FnScope ["tops", "done", "column"] ["tops"] (defScope s_tidied) := ⟨rfl, rfl, rfl, by decide +kernel, rfl, by decide +kernel, by decide +kernel⟩
abbrev s_reduced : Stmt := topS 14
theorem sc_reduced : FnScope ["row", "tops", "column", "top", "times"] ["row", "tops"] (defScope s_reduced) := ⟨rfl, rfl, rfl, by decide +kernel, rfl, by decide +kernel, by decide +kernel⟩
abbrev s_Grid_init : Stmt := inClass (topS 16) 0
theorem sc_Grid_init : FnScope ["self", "rows", "width"] ["self", "rows", "width"] (defScope s_Grid_init) := ⟨rfl, rfl, rfl, by decide +kernel, rfl, by decide +kernel, by decide +kernel⟩
abbrev s_Grid_transposed : Stmt := inClass (topS 16) 9
theorem sc_Grid_transposed : FnScope ["self", "places", "k", "row"] ["self"] (defScope s_Grid_transposed) := ⟨rfl, rfl, rfl, by decide +kernel, rfl, by decide +kernel, by decide +kernel⟩
abbrev s_Grid_is_primitive : Stmt := inClass (topS 16) 22
theorem sc_Grid_is_primitive : FnScope ["self"] ["self"] (defScope s_Grid_is_primitive) := ⟨rfl, rfl, rfl, by decide +kernel, rfl, by decide +kernel, by decide +kernel⟩
abbrev s_checked_rows : Stmt := topS 17
theorem sc_checked_rows : FnScope ["rows", "row", "item"] ["rows"] (defScope s_checked_rows) := ⟨rfl, rfl, rfl, by decide +kernel, rfl, by decide +kernel, by decide +kernel⟩
abbrev s_checked_width : Stmt := topS 18
theorem sc_checked_width : FnScope ["rows", "width", "row"] ["rows", "width"] (defScope s_checked_width) := ⟨rfl, rfl, rfl, by decide +kernel, rfl, by decide +kernel, by decide +kernel⟩
abbrev s_unit : Stmt := topS 20
theorem sc_unit : FnScope ["n"] ["n"] (defScope s_unit) := ⟨rfl, rfl, rfl, by decide +kernel, rfl, by decide +kernel, by decide +kernel⟩
abbrev s_diagonal : Stmt := topS 21
theorem sc_diagonal : FnScope ["numbers", "places", "i", "j"] ["numbers"] (defScope s_diagonal) := ⟨rfl, rfl, rfl, by decide +kernel, rfl, by decide +kernel, by decide +kernel⟩
abbrev s_law_state : Stmt := topS 23
theorem sc_law_state : FnScope ["script", "seed", "total", "cell"] ["script"] (defScope s_law_state) := ⟨rfl, rfl, rfl, by decide +kernel, rfl, by decide +kernel, by decide +kernel⟩
abbrev s_law_take : Stmt := topS 24
theorem sc_law_take : FnScope ["state", "m", "value"] ["state", "m"] (defScope s_law_take) := ⟨rfl, rfl, rfl, by decide +kernel, rfl, by decide +kernel, by decide +kernel⟩
abbrev s_law_rows : Stmt := topS 25
theorem sc_law_rows : FnScope ["state", "height", "width", "most", "rows", "i", "k"] ["state", "height", "width", "most"] (defScope s_law_rows) := ⟨rfl, rfl, rfl, by decide +kernel, rfl, by decide +kernel, by decide +kernel⟩
abbrev s_law_product : Stmt := topS 26
theorem sc_law_product : FnScope ["a", "b", "width", "out", "row", "line", "k", "total", "j"] ["a", "b", "width"] (defScope s_law_product) := ⟨rfl, rfl, rfl, by decide +kernel, rfl, by decide +kernel, by decide +kernel⟩
abbrev s_law_determinant : Stmt := topS 27
theorem sc_law_determinant : FnScope ["rows", "total", "k", "minor", "row"] ["rows"] (defScope s_law_determinant) := ⟨rfl, rfl, rfl, by decide +kernel, rfl, by decide +kernel, by decide +kernel⟩
abbrev s_law_unit : Stmt := topS 28
theorem sc_law_unit : FnScope ["n", "i", "k"] ["n"] (defScope s_law_unit) := ⟨rfl, rfl, rfl, by decide +kernel, rfl, by decide +kernel, by decide +kernel⟩
abbrev s_law_step : Stmt := topS 29
theorem sc_law_step : FnScope ["rows", "i", "k", "factor", "out", "x", "y"] ["rows", "i", "k", "factor"] (defScope s_law_step) := ⟨rfl, rfl, rfl, by decide +kernel, rfl, by decide +kernel, by decide +kernel⟩
abbrev s_law_unimodular : Stmt := topS 30
theorem sc_law_unimodular : FnScope ["state", "n", "rows", "turn"] ["state", "n"] (defScope s_law_unimodular) := ⟨rfl, rfl, rfl, by decide +kernel, rfl, by decide +kernel, by decide +kernel⟩
abbrev s_law_gcd : Stmt := topS 31
theorem sc_law_gcd : FnScope ["a", "b", "first", "second", "rest"] ["a", "b"] (defScope s_law_gcd) := ⟨rfl, rfl, rfl, by decide +kernel, rfl, by decide +kernel, by decide +kernel⟩
abbrev s_law_choices : Stmt := topS 32
theorem sc_law_choices : FnScope ["n", "k", "out", "at", "longer", "chosen"] ["n", "k"] (defScope s_law_choices) := ⟨rfl, rfl, rfl, by decide +kernel, rfl, by decide +kernel, by decide +kernel⟩
abbrev s_law : Stmt := topS 33
theorem sc_law : FnScope ["script", "state", "n", "k", "whole", "mixed_v", "told", "rows", "common", "columns", "row", "j"] ["script"] (defScope s_law) := ⟨rfl, rfl, rfl, by decide +kernel, rfl, by decide +kernel, by decide +kernel⟩
structure Top (K : PySem.W.Frag) (mg : Str → Option Value) where
  a_is_integer : Addr
  a_cofactors : Addr
  a_hermite_rows : Addr
  a_with_row : Addr
  a_merged : Addr
  a_mixed : Addr
  a_tidied : Addr
  a_reduced : Addr
  a_Grid_init : Addr
  a_Grid_transposed : Addr
  a_Grid_is_primitive : Addr
  a_checked_rows : Addr
  a_checked_width : Addr
  a_unit : Addr
  a_diagonal : Addr
  a_law_state : Addr
  a_law_take : Addr
  a_law_rows : Addr
  a_law_product : Addr
  a_law_determinant : Addr
  a_law_unit : Addr
  a_law_step : Addr
  a_law_unimodular : Addr
  a_law_gcd : Addr
  a_law_choices : Addr
  a_law : Addr
  d_is_integer : FuncData
  d_cofactors : FuncData
  d_hermite_rows : FuncData
  d_with_row : FuncData
  d_merged : FuncData
  d_mixed : FuncData
  d_tidied : FuncData
  d_reduced : FuncData
  d_Grid_init : FuncData
  d_Grid_transposed : FuncData
  d_Grid_is_primitive : FuncData
  d_checked_rows : FuncData
  d_checked_width : FuncData
  d_unit : FuncData
  d_diagonal : FuncData
  d_law_state : FuncData
  d_law_take : FuncData
  d_law_rows : FuncData
  d_law_product : FuncData
  d_law_determinant : FuncData
  d_law_unit : FuncData
  d_law_step : FuncData
  d_law_unimodular : FuncData
  d_law_gcd : FuncData
  d_law_choices : FuncData
  d_law : FuncData
  C_Grid : Addr
  X_Malformed : Addr
  F_is_integer : Fun K "is_integer" "is_integer" s_is_integer a_is_integer d_is_integer
  b_is_integer : Binds K d_is_integer ["value"] []
  g_is_integer : mg "is_integer" = some (.ref a_is_integer)
  F_cofactors : Fun K "cofactors" "cofactors" s_cofactors a_cofactors d_cofactors
  b_cofactors : Binds K d_cofactors ["a", "b"] []
  g_cofactors : mg "cofactors" = some (.ref a_cofactors)
  F_hermite_rows : Fun K "hermite_rows" "hermite_rows" s_hermite_rows a_hermite_rows d_hermite_rows
  b_hermite_rows : Binds K d_hermite_rows ["rows"] []
  g_hermite_rows : mg "hermite_rows" = some (.ref a_hermite_rows)
  F_with_row : Fun K "with_row" "with_row" s_with_row a_with_row d_with_row
  b_with_row : Binds K d_with_row ["tops", "row"] []
  g_with_row : mg "with_row" = some (.ref a_with_row)
  F_merged : Fun K "merged" "merged" s_merged a_merged d_merged
  b_merged : Binds K d_merged ["top", "row", "column"] []
  g_merged : mg "merged" = some (.ref a_merged)
  F_mixed : Fun K "mixed" "mixed" s_mixed a_mixed d_mixed
  b_mixed : Binds K d_mixed ["a", "first", "b", "second"] []
  g_mixed : mg "mixed" = some (.ref a_mixed)
  F_tidied : Fun K "tidied" "tidied" s_tidied a_tidied d_tidied
  b_tidied : Binds K d_tidied ["tops"] []
  g_tidied : mg "tidied" = some (.ref a_tidied)
  F_reduced : Fun K "reduced" "reduced" s_reduced a_reduced d_reduced
  b_reduced : Binds K d_reduced ["row", "tops"] []
  g_reduced : mg "reduced" = some (.ref a_reduced)
  F_Grid_init : FunD K "__init__" "Grid.__init__" (defArgs s_Grid_init) (defBody s_Grid_init) (defScope s_Grid_init) [.non] [] a_Grid_init d_Grid_init
  b_Grid_init : Binds K d_Grid_init ["self", "rows", "width"] []
  F_Grid_transposed : Fun K "transposed" "Grid.transposed" s_Grid_transposed a_Grid_transposed d_Grid_transposed
  b_Grid_transposed : Binds K d_Grid_transposed ["self"] []
  m_Grid_transposed : Meth K C_Grid "transposed" a_Grid_transposed
  F_Grid_is_primitive : Fun K "is_primitive" "Grid.is_primitive" s_Grid_is_primitive a_Grid_is_primitive d_Grid_is_primitive
  b_Grid_is_primitive : Binds K d_Grid_is_primitive ["self"] []
  m_Grid_is_primitive : Meth K C_Grid "is_primitive" a_Grid_is_primitive
  F_checked_rows : Fun K "checked_rows" "checked_rows" s_checked_rows a_checked_rows d_checked_rows
  b_checked_rows : Binds K d_checked_rows ["rows"] []
  g_checked_rows : mg "checked_rows" = some (.ref a_checked_rows)
  F_checked_width : Fun K "checked_width" "checked_width" s_checked_width a_checked_width d_checked_width
  b_checked_width : Binds K d_checked_width ["rows", "width"] []
  g_checked_width : mg "checked_width" = some (.ref a_checked_width)
  F_unit : Fun K "unit" "unit" s_unit a_unit d_unit
  b_unit : Binds K d_unit ["n"] []
  g_unit : mg "unit" = some (.ref a_unit)
  F_diagonal : Fun K "diagonal" "diagonal" s_diagonal a_diagonal d_diagonal
  b_diagonal : Binds K d_diagonal ["numbers"] []
  g_diagonal : mg "diagonal" = some (.ref a_diagonal)
  F_law_state : Fun K "_law_state" "_law_state" s_law_state a_law_state d_law_state
  b_law_state : Binds K d_law_state ["script"] []
  g_law_state : mg "_law_state" = some (.ref a_law_state)
  F_law_take : Fun K "_law_take" "_law_take" s_law_take a_law_take d_law_take
  b_law_take : Binds K d_law_take ["state", "m"] []
  g_law_take : mg "_law_take" = some (.ref a_law_take)
  F_law_rows : Fun K "_law_rows" "_law_rows" s_law_rows a_law_rows d_law_rows
  b_law_rows : Binds K d_law_rows ["state", "height", "width", "most"] []
  g_law_rows : mg "_law_rows" = some (.ref a_law_rows)
  F_law_product : Fun K "_law_product" "_law_product" s_law_product a_law_product d_law_product
  b_law_product : Binds K d_law_product ["a", "b", "width"] []
  g_law_product : mg "_law_product" = some (.ref a_law_product)
  F_law_determinant : Fun K "_law_determinant" "_law_determinant" s_law_determinant a_law_determinant d_law_determinant
  b_law_determinant : Binds K d_law_determinant ["rows"] []
  g_law_determinant : mg "_law_determinant" = some (.ref a_law_determinant)
  F_law_unit : Fun K "_law_unit" "_law_unit" s_law_unit a_law_unit d_law_unit
  b_law_unit : Binds K d_law_unit ["n"] []
  g_law_unit : mg "_law_unit" = some (.ref a_law_unit)
  F_law_step : Fun K "_law_step" "_law_step" s_law_step a_law_step d_law_step
  b_law_step : Binds K d_law_step ["rows", "i", "k", "factor"] []
  g_law_step : mg "_law_step" = some (.ref a_law_step)
  F_law_unimodular : Fun K "_law_unimodular" "_law_unimodular" s_law_unimodular a_law_unimodular d_law_unimodular
  b_law_unimodular : Binds K d_law_unimodular ["state", "n"] []
  g_law_unimodular : mg "_law_unimodular" = some (.ref a_law_unimodular)
  F_law_gcd : Fun K "_law_gcd" "_law_gcd" s_law_gcd a_law_gcd d_law_gcd
  b_law_gcd : Binds K d_law_gcd ["a", "b"] []
  g_law_gcd : mg "_law_gcd" = some (.ref a_law_gcd)
  F_law_choices : Fun K "_law_choices" "_law_choices" s_law_choices a_law_choices d_law_choices
  b_law_choices : Binds K d_law_choices ["n", "k"] []
  g_law_choices : mg "_law_choices" = some (.ref a_law_choices)
  F_law : Fun K "law" "law" s_law a_law d_law
  b_law : Binds K d_law ["script"] []
  g_law : mg "law" = some (.ref a_law)
  g_Grid : mg "Grid" = some (.ref C_Grid)
  cl_Grid : Cls K C_Grid
  mk_Grid : Mk K C_Grid a_Grid_init
  n_rows : NoAttr K C_Grid "rows"
  n_width : NoAttr K C_Grid "width"
  sf_Grid : PySem.W.selfFirst K C_Grid = true
  kc_Grid : PySem.W.findIn K (.ref C_Grid) "__class__" = some (some (.builtin "object.__class__"))
  kg_Grid : PySem.W.specialIn K (.builtin "object.__class__") "__get__" = some (some (.builtin "getset_descriptor.__get__"))
  kt_Grid : PySem.W.takesIn K (.builtin "object.__class__") = some true
  km_Grid : PySem.W.mroIn K C_Grid (.type "object") = some true
  ty_Grid : PySem.W.typeIn K (.ref C_Grid) = some (.type "type")
  ic_Grid : PySem.W.isClsIn K C_Grid = true
  ne_Grid : PySem.W.findIn K (.ref C_Grid) "__ne__" = some (some (.builtin "object.__ne__"))
  z_ValueError : mg "ValueError" = none
  z_abs : mg "abs" = none
  z_all : mg "all" = none
  z_bool : mg "bool" = none
  z_dict : mg "dict" = none
  z_int : mg "int" = none
  z_isinstance : mg "isinstance" = none
  z_len : mg "len" = none
  z_list : mg "list" = none
  z_range : mg "range" = none
  z_sorted : mg "sorted" = none
  z_tuple : mg "tuple" = none
  z_zip : mg "zip" = none
  gX_Malformed : mg "Malformed" = some (.ref X_Malformed)
  xX_Malformed : PySem.W.excIn K X_Malformed [.type "ValueError", .type "Exception", .type "BaseException", .type "object"] "ValueError.__new__" = true
  kX_Malformed : PySem.W.keepIn K (.ref X_Malformed) = true
  bX_Malformed : PySem.W.subIn K (.ref X_Malformed) (.type "BaseException") = some true
  tX_Malformed : PySem.W.typeIn K (.ref X_Malformed) = some (.type "type")
  iX_Malformed : PySem.W.isClsIn K X_Malformed = true
  sX_Malformed : PySem.W.subIn K (.ref X_Malformed) (.ref X_Malformed) = some true
end K06
namespace K06
open PySem PySem.Spec PyProof.Rows L2 Gm
open C8 (Cal Met Mak pe_c pe_mt pe_mt0 pe_mk)
section
variable {P : Program} {w : World} {K : PySem.W.Frag} {mg : Str → Option Value} {base : Heap}
/-! ### is_integer -/
def sp_is_integer : Sp := fun vs H Q _ => ∃ i, vs = [V.int i] ∧ Q (.bl true) H
theorem ok_is_integer (T : Top K mg) : FnOk P w K mg base CX0 1 T.a_is_integer T.d_is_integer ["value"] sp_is_integer := by
  refine T.F_is_integer.ok sc_is_integer (fun vs H Q E h => ?_) (fun cdv A outer s H vs Q E hr h => ?_)
  · obtain ⟨i, rfl, _⟩ := h
    rfl
  · obtain ⟨i, rfl, q⟩ := h
    refine ⟨_, (pss_one (ps_ret (pe_and (pe_callB (isiK K rfl) (by rfl) T.z_isinstance (by decide +kernel) (pa_cons (pv 0) (pa_cons (pe_bltn (v := .ty "int") (by rfl) T.z_int (by decide +kernel) rfl) pa_nil))) (pe_one (pe_not (pe_callB (isiK K rfl) (by rfl) T.z_isinstance (by decide +kernel) (pa_cons (pv 0) (pa_cons (pe_bltn (v := .ty "bool") (by rfl) T.z_bool (by decide +kernel) rfl) pa_nil)))))))), ?_⟩
    refine ⟨_, rfl, .int i, .ty "int", _, _, true, rfl, .ty "int", .base (.int i), kit_ty (by decide +kernel), true, rfl, iteT ?_⟩
    exact ⟨_, rfl, .int i, .ty "bool", _, _, false, rfl, .ty "bool", .base (.int i), kit_ty (by decide +kernel), false, rfl, q⟩
theorem cal_is_integer (T : Top K mg) (hN : base.NoSeer) (hT : P.given.tree = none) : Cal P w K mg base 1 "is_integer" sp_is_integer [] := ⟨⟨_, _, _, [], ok_is_integer T, T.g_is_integer, T.F_is_integer.kp, T.b_is_integer, .nil⟩⟩
/-! ### first_with_head -/
/-- the first place from k on whose row does not begin with 0 -/
def firstHead : List (List Int) → Nat → Option Nat
  | [], _ => none
  | r :: rs, k => if r.headD 0 ≠ 0 then some k else firstHead rs (k + 1)
theorem firstHead_step : ∀ (m : List (List Int)) (i j : Nat) (r : List Int), m[i]? = some r → (∀ k, k < i → ∀ r', m[k]? = some r' → r'.headD 0 = 0) → firstHead m j = if r.headD 0 ≠ 0 then some (j + i) else firstHead (m.drop (i + 1)) (j + i + 1)
  | [], i, j, r, h, _ => by simp at h
  | a :: m, 0, j, r, h, _ => by
    have e : a = r := by simpa using h
    subst e
    rfl
  | a :: m, i + 1, j, r, h, z => by
    have h0 : a.headD 0 = 0 := z 0 (Nat.succ_pos _) a rfl
    show (if a.headD 0 ≠ 0 then some j else firstHead m (j + 1)) = _
    rw [if_neg (by rw [h0]; simp), firstHead_step m i (j + 1) r (by simpa using h) fun k hk r' e => z (k + 1) (by omega) r' (by simpa using e)]
    rw [show j + 1 + i = j + (i + 1) by omega]
    rfl
theorem firstHead_none {m : List (List Int)} : ∀ {j : Nat}, (∀ r ∈ m, r.headD 0 = 0) → firstHead m j = none := by
  induction m with
  | nil => intro _ _; rfl
  | cons a m ih =>
    intro j h
    show (if a.headD 0 ≠ 0 then some j else firstHead m (j + 1)) = none
    rw [if_neg (by rw [h a (List.mem_cons_self ..)]; simp), ih fun r hr => h r (List.mem_cons_of_mem _ hr)]
def optV : Option Nat → V
  | none => .non
  | some k => .int k
def sp_first_with_head (K : PySem.W.Frag) : Sp := fun vs H Q _ => ∃ v m, vs = [v] ∧ IRows K H v m ∧ m.length ≤ 1000 ∧ (∀ r ∈ m, r ≠ []) ∧ ∀ H', Same H H' → Q (optV (firstHead m 0)) H'

end
end K06
namespace K06
open PySem PySem.Spec PyProof.Rows L2 Gm
open C8 (Cal Met Mak pe_c pe_mt pe_mt0 pe_mk)
section
variable {P : Program} {w : World} {K : PySem.W.Frag} {mg : Str → Option Value} {base : Heap}
/-! ### cleared -/
/-- the items of the row behind its first, once that is made 0 by the top row -/
def clr (ts rs : List Int) (l : Int) : List Int := List.zipWith (fun a b => (ts.headD 0 * b - rs.headD 0 * a).fdiv l) ts.tail rs.tail
theorem clr_len {ts rs : List Int} {l : Int} (h : ts.length = rs.length) : (clr ts rs l).length = ts.length - 1 := by
  unfold clr
  rw [List.length_zipWith, List.length_tail, List.length_tail, h, Nat.min_self]
theorem clr_get {ts rs : List Int} {l : Int} {k : Nat} {a b : Int} (h1 : ts[k + 1]? = some a) (h2 : rs[k + 1]? = some b) : (clr ts rs l)[k]? = some ((ts.headD 0 * b - rs.headD 0 * a).fdiv l) := by
  unfold clr
  rw [List.getElem?_zipWith]
  have e1 : ts.tail[k]? = some a := by rw [List.getElem?_tail]; exact h1
  have e2 : rs.tail[k]? = some b := by rw [List.getElem?_tail]; exact h2
  rw [e1, e2]
/-- all items have fewer than B bits -/
def Bits (B : Nat) (ns : List Int) : Prop := ∀ x ∈ ns, x.natAbs < 2 ^ B
theorem Bits.at {B : Nat} {ns : List Int} {k : Nat} {x : Int} (h : Bits B ns) (e : ns[k]? = some x) : x.natAbs < 2 ^ B := h x (List.mem_of_getElem? e)
def sp_cleared (K : PySem.W.Frag) : Sp := fun vs H Q _ => ∃ v1 v2 ts rs l B, vs = [v1, v2, V.int l] ∧ IRow K H v1 ts ∧ IRow K H v2 rs ∧ ts.length = rs.length ∧ 0 < ts.length ∧ ts.length ≤ 1000 ∧ l ≠ 0 ∧ Bits B ts ∧ Bits B rs ∧ B ≤ 60000000 ∧
  ∀ H' p, Same H H' → H p = none → H' p = some (.lst ((clr ts rs l).map V.int)) → Q (.ref p) H'

end
end K06
namespace K06
open PySem PySem.Spec PyProof.Rows L2 Gm
open C8 (Cal Met Mak pe_c pe_mt pe_mt0 pe_mk)
section
variable {P : Program} {w : World} {K : PySem.W.Frag} {mg : Str → Option Value} {base : Heap}
/-! ### determinant_of -/
/-- the elimination without fractions, by the number of rows -/
def bare : Nat → Int → Int → List (List Int) → Int
  | 0, s, l, _ => s * l
  | n + 1, s, l, m => match firstHead m 0 with
    | none => 0
    | some k => bare n (if k % 2 = 1 then -s else s) ((m.getD k []).headD 0) ((m.eraseIdx k).map fun r => clr (m.getD k []) r l)
theorem firstHead_some : ∀ {m : List (List Int)} {j k : Nat}, firstHead m j = some k → j ≤ k ∧ k < j + m.length ∧ (m.getD (k - j) []).headD 0 ≠ 0
  | [], _, _, h => by cases h
  | a :: m, j, k, h => by
    by_cases ha : a.headD 0 ≠ 0
    · have e : firstHead (a :: m) j = some j := if_pos ha
      rw [e] at h
      cases h
      refine ⟨Nat.le_refl _, by simp, ?_⟩
      rw [Nat.sub_self]
      exact ha
    · have e : firstHead (a :: m) j = firstHead m (j + 1) := if_neg ha
      rw [e] at h
      obtain ⟨h1, h2, h3⟩ := firstHead_some h
      refine ⟨by omega, by rw [List.length_cons]; omega, ?_⟩
      rw [show k - j = (k - (j + 1)) + 1 by omega]
      exact h3
theorem fdiv_le (x l : Int) : (x.fdiv l).natAbs ≤ x.natAbs := by
  cases x with
  | ofNat m =>
    cases l with
    | ofNat n =>
      show (Int.fdiv (m : Int) (n : Int)).natAbs ≤ m
      rw [Int.fdiv_eq_ediv_of_nonneg _ (by omega)]
      show m / n ≤ m
      exact Nat.div_le_self _ _
    | negSucc n =>
      cases m with
      | zero => exact Nat.le_refl _
      | succ m =>
        show (m / (n + 1)) + 1 ≤ m + 1
        have := Nat.div_le_self m (n + 1)
        omega
  | negSucc m =>
    cases l with
    | ofNat n =>
      cases n with
      | zero => exact Nat.zero_le _
      | succ n =>
        show (m / (n + 1)) + 1 ≤ m + 1
        have := Nat.div_le_self m (n + 1)
        omega
    | negSucc n =>
      show (m + 1) / (n + 1) ≤ m + 1
      exact Nat.div_le_self _ _
theorem clr_bits {ts rs : List Int} {l : Int} {B : Nat} (bt : Bits B ts) (br : Bits B rs) : Bits (2 * B + 1) (clr ts rs l) := by
  intro x hx
  obtain ⟨k, hk⟩ := List.getElem?_of_mem hx
  unfold clr at hk
  rw [List.getElem?_zipWith] at hk
  cases e1 : ts.tail[k]? with
  | none => rw [e1] at hk; cases hk
  | some a =>
    cases e2 : rs.tail[k]? with
    | none => rw [e1, e2] at hk; cases hk
    | some b =>
      rw [e1, e2] at hk
      have ex : (ts.headD 0 * b - rs.headD 0 * a).fdiv l = x := Option.some.inj hk
      rw [← ex]
      refine Nat.lt_of_le_of_lt (fdiv_le _ _) ?_
      have ha : a.natAbs < 2 ^ B := bt a (List.mem_of_mem_tail (List.mem_of_getElem? e1))
      have hb : b.natAbs < 2 ^ B := br b (List.mem_of_mem_tail (List.mem_of_getElem? e2))
      have h1 : (ts.headD 0).natAbs < 2 ^ B := by
        cases ts with
        | nil => cases e1
        | cons t ts => exact bt t (List.mem_cons_self ..)
      have h2 : (rs.headD 0).natAbs < 2 ^ B := by
        cases rs with
        | nil => cases e2
        | cons t ts => exact br t (List.mem_cons_self ..)
      have p1 := wide_lt h1 hb
      have p2 := wide_lt h2 ha
      have e3 : 2 ^ (2 * B + 1) = 2 ^ (B + B) + 2 ^ (B + B) := by rw [show 2 * B + 1 = (B + B) + 1 by omega, Nat.pow_succ]; omega
      rw [e3]
      omega
/-- a square matrix of size n whose items have fewer than B bits -/
structure Sq (n B : Nat) (m : List (List Int)) : Prop where
  len : m.length = n
  row : ∀ r ∈ m, r.length = n
  bits : ∀ r ∈ m, Bits B r
theorem Sq.next {n B : Nat} {m : List (List Int)} (h : Sq (n + 1) B m) {k : Nat} (hk : k < n + 1) (l : Int) : Sq n (2 * B + 1) ((m.eraseIdx k).map fun r => clr (m.getD k []) r l) := by
  have hk' : k < m.length := by rw [h.len]; exact hk
  have eg : m.getD k [] = m[k] := by rw [List.getD_eq_getElem?_getD, List.getElem?_eq_getElem hk']; rfl
  have hm : m.getD k [] ∈ m := by rw [eg]; exact List.getElem_mem _
  refine ⟨?_, fun r hr => ?_, fun r hr => ?_⟩
  · rw [List.length_map, List.length_eraseIdx_of_lt hk', h.len]
    rfl
  · obtain ⟨r', hr', rfl⟩ := List.mem_map.mp hr
    have h1 := h.row r' (List.mem_of_mem_eraseIdx hr')
    have h2 := h.row _ hm
    rw [clr_len (by omega)]
    omega
  · obtain ⟨r', hr', rfl⟩ := List.mem_map.mp hr
    exact clr_bits (h.bits _ hm) (h.bits _ (List.mem_of_mem_eraseIdx hr'))
/-- the places that are kept -/
theorem filter_ne_range (n k : Nat) : (List.range n).filter (fun i => decide (i ≠ k)) = (List.range n).eraseIdx k := by
  induction n with
  | zero => simp
  | succ n ih =>
    rw [List.range_succ, List.filter_append, ih, List.filter_cons, List.filter_nil]
    by_cases h : n = k
    · subst h
      rw [if_neg (by simp), List.append_nil, List.eraseIdx_append_of_length_le (by simp), List.length_range, Nat.sub_self]
      simp [List.eraseIdx_of_length_le]
    · rw [if_pos (by simpa using h)]
      by_cases h2 : k < n
      · rw [List.eraseIdx_append_of_lt_length (by simpa using h2)]
      · rw [List.eraseIdx_of_length_le (by simp; omega), List.eraseIdx_of_length_le (by simp; omega)]
theorem map_range_get (m : List (List Int)) : (List.range m.length).map (fun i => m.getD i []) = m := by
  apply List.ext_getElem?
  intro i
  rw [List.getElem?_map]
  by_cases h : i < m.length
  · rw [List.getElem?_range h, List.getElem?_eq_getElem h]
    show some (m.getD i []) = _
    rw [List.getD_eq_getElem?_getD, List.getElem?_eq_getElem h]
    rfl
  · rw [List.getElem?_eq_none (by simpa using h), List.getElem?_eq_none (by omega)]
    rfl
theorem eraseIdx_map' {α β : Type} (f : α → β) : ∀ (l : List α) (k : Nat), (l.map f).eraseIdx k = (l.eraseIdx k).map f
  | [], _ => rfl
  | _ :: _, 0 => rfl
  | a :: l, k + 1 => congrArg (f a :: ·) (eraseIdx_map' f l k)
theorem erase_map_range {β : Type} (m : List (List Int)) (k : Nat) (f : List Int → β) : (m.eraseIdx k).map f = ((List.range m.length).eraseIdx k).map fun i => f (m.getD i []) := by
  have h : m.eraseIdx k = ((List.range m.length).eraseIdx k).map fun i => m.getD i [] := by
    rw [← eraseIdx_map', map_range_get]
  rw [h, List.map_map]
  rfl
theorem paired_map {α β γ : Type} {F : α → γ → Prop} {f : β → γ} : ∀ {l : List α} {is : List β}, Paired (fun i v => F v (f i)) is l → Paired F l (is.map f)
  | _, _, .nil => .nil
  | _, _, .cons r t => .cons r (paired_map t)
def sp_determinant_of (K : PySem.W.Frag) : Sp := fun vs H Q _ => ∃ v m n B, vs = [v] ∧ IRows K H v m ∧ Sq n B m ∧ n ≤ 5 ∧ B ≤ 1200000 ∧ ∀ H', Same H H' → Q (.int (bare n 1 1 m)) H'

end
end K06
namespace K06
open PySem PySem.Spec PyProof.Rows L2 Gm
open C8 (Cal Met Mak pe_c pe_mt pe_mt0 pe_mk)
section
variable {P : Program} {w : World} {K : PySem.W.Frag} {mg : Str → Option Value} {base : Heap}
/-! ### grids -/
theorem rw_ne : ¬ (("rows" : Str) = "width") := by decide +kernel
def flds (t : V) (w : Nat) : List (Str × V) := putF "width" (.int w) (putF "rows" t [])
theorem flds_rows (t : V) (w : Nat) : (flds t w).lookup ("rows" : Str) = some t := by
  unfold flds
  rw [lookup_putF, if_neg rw_ne, lookup_putF, if_pos rfl]
theorem flds_width (t : V) (w : Nat) : (flds t w).lookup ("width" : Str) = some (.int w) := by
  unfold flds
  rw [lookup_putF, if_pos rfl]
theorem flds_no (t : V) (w : Nat) {m : Str} (h1 : ¬ m = "width") (h2 : ¬ m = "rows") : (flds t w).lookup m = none := by
  unfold flds
  rw [lookup_putF, if_neg h1, lookup_putF, if_neg h2]
  all_goals rfl
/-- a Grid with the rows m, of width w -/
structure IsGrid (K : PySem.W.Frag) (C : Addr) (H : Hp) (v : V) (m : List (List Int)) (w : Nat) : Prop where
  ob : ∃ p dx t, v = .ref p ∧ H p = some (.ins C dx (flds t w)) ∧ TRows K H t m
  wd : ∀ r ∈ m, r.length = w
theorem IsGrid.same {K : PySem.W.Frag} {C : Addr} {H H' : Hp} {v : V} {m : List (List Int)} {w : Nat} (e : Same H H') (h : IsGrid K C H v m w) : IsGrid K C H' v m w :=
  let ⟨p, dx, t, ev, ho, ht⟩ := h.ob
  ⟨⟨p, dx, t, ev, e _ _ ho, ht.same e⟩, h.wd⟩
/-! ### checked_rows -/
theorem seq_ty {K : PySem.W.Frag} {H : Hp} {a : Addr} {xs : List V} (h : Gm.Seq K H a xs) : ∃ n, (n = "list" ∨ n = "tuple") ∧ TyX K H (.ref a) (.type n) := by
  rcases h with h | h
  · refine ⟨"list", .inl rfl, ?_⟩
    rcases h with (h | ⟨o, h⟩) | ⟨o, its, n, h, c, _⟩
    · exact .base (.lst h)
    · exact .base (.frz h)
    · exact .kList h c
  · refine ⟨"tuple", .inr rfl, ?_⟩
    rcases h with (h | ⟨o, h⟩) | ⟨o, its, n, h, c, _⟩
    · exact .base (.tup h)
    · exact .fTuple h
    · exact .kTuple h c
theorem kit_lt {K : PySem.W.Frag} {n : String} (h : n = "list" ∨ n = "tuple") : PySem.W.kitAny K (.type n) [.type "list", .type "tuple"] = some true := by
  rcases h with rfl | rfl
  · exact kitAny_cons (b := true) (kit_ty (by decide +kernel)) (fun e => by cases e) fun _ => rfl
  · exact kitAny_cons (b := false) (kit_ty (by decide +kernel)) (fun _ => kitAny_cons (b := true) (kit_ty (by decide +kernel)) (fun e => by cases e) fun _ => rfl) fun e => by cases e
def sp_checked_rows (K : PySem.W.Frag) : Sp := fun vs H Q _ => ∃ v m, vs = [v] ∧ IRows K H v m ∧ m.length ≤ 1000 ∧ (∀ r ∈ m, r.length ≤ 1000) ∧ ∀ v' H', Same H H' → TRows K H' v' m → Q v' H'
theorem ok_checked_rows (T : Top K mg) (hN : base.NoSeer) (hT : P.given.tree = none) : FnOk P w K mg base CX0 2 T.a_checked_rows T.d_checked_rows ["rows"] (sp_checked_rows K) := by
  refine T.F_checked_rows.ok sc_checked_rows (fun vs H Q E h => ?_) (fun cdv A outer s H vs Q E hr h => ?_)
  · obtain ⟨v, m, rfl, _⟩ := h
    rfl
  · obtain ⟨v, m, rfl, hm, hl, hw, q⟩ := h
    obtain ⟨a, ws, rfl, hs, hp⟩ := id hm
    have lw := Paired.length hp
    refine ⟨_, (pss_cons (ps_if (pt_not (pt_val (pe_callB (isiTK K rfl) (by rfl) T.z_isinstance (by decide +kernel) (pa_cons (pv 0) (pa_cons (pe_tup (pa_cons (pe_bltn (v := .ty "list") (by rfl) T.z_list (by decide +kernel) rfl) (pa_cons (pe_bltn (v := .ty "tuple") (by rfl) T.z_tuple (by decide +kernel) rfl) pa_nil))) pa_nil)))))
      (pss_one ps_never)
      pss_nil)
      (pss_cons (ps_for PassesOwn.never rfl (piS K rfl (pv 0)) (pg_name (i := 1) sc_checked_rows.nd rfl (by first | exact .inl rfl | exact .inr rfl))
      (pss_cons (ps_if (pt_not (pt_val (pe_callB (isiTK K rfl) (by rfl) T.z_isinstance (by decide +kernel) (pa_cons (pv 1) (pa_cons (pe_tup (pa_cons (pe_bltn (v := .ty "list") (by rfl) T.z_list (by decide +kernel) rfl) (pa_cons (pe_bltn (v := .ty "tuple") (by rfl) T.z_tuple (by decide +kernel) rfl) pa_nil))) pa_nil)))))
      (pss_one ps_never)
      pss_nil)
      (pss_one (ps_if (pt_not (pt_val (pe_callB (allK K rfl rfl) (by rfl) T.z_all (by decide +kernel) (pa_cons (pe_lc (own := [("item", 2)]) (g := (gName 2)) (by rfl) sc_checked_rows.nd (piS K rfl (pv 1)) ((by show BlkOk ["rows", "row", "item"] (defScope s_checked_rows) _ _; exact blkOk_by (by decide +kernel))) (fun _ _ _ _ _ => (pg_name (i := 2) sc_checked_rows.nd rfl (by first | exact .inl rfl | exact .inr rfl))) (fun _ _ _ _ _ => pts_nil) (fun _ _ _ _ _ => (pe_c (cal_is_integer T hN hT) hr (by decide) (by rfl) (pa_cons (pv 2) pa_nil)))) pa_nil))))
      (pss_one ps_never)
      pss_nil))))
      (pss_one (ps_ret (pe_callTy (tupK K rfl) (by rfl) T.z_tuple (by decide +kernel) (pa_cons (pe_lc (own := [("row", 1)]) (g := (gName 1)) (by rfl) sc_checked_rows.nd (piS K rfl (pv 0)) ((by show BlkOk ["rows", "row", "item"] (defScope s_checked_rows) _ _; exact blkOk_by (by decide +kernel))) (fun _ _ _ _ _ => (pg_name (i := 1) sc_checked_rows.nd rfl (by first | exact .inl rfl | exact .inr rfl))) (fun _ _ _ _ _ => pts_nil) (fun _ _ _ _ _ => (pe_callTy (tupK K rfl) (by rfl) T.z_tuple (by decide +kernel) (pa_cons (pv 1) pa_nil)))) pa_nil)))))), ?_⟩
    -- if not isinstance(rows, (list, tuple))
    refine ⟨_, rfl, by show 2 ≤ sizeLine; decide, fun p np => ?_⟩
    have s1 : Same H (upd H p (.tup [.ty "list", .ty "tuple"])) := same_upd np
    obtain ⟨n, hn, ty⟩ := seq_ty (hs.same s1)
    refine ⟨.ref a, p, [.ty "list", .ty "tuple"], _, [.type "list", .type "tuple"], true, rfl, upd_same, .cons (.ty _) (.cons (.ty _) .nil), ty, kit_lt hn, true, rfl, ?_⟩
    refine iteF ?_
    -- for row in rows
    refine ⟨_, rfl, a, ws, rfl, hs.same s1, fun J G W hG => ?_⟩
    generalize hH1 : upd H p (.tup [.ty "list", .ty "tuple"]) = H1 at s1 hG
    refine for_it W (fun i σ H2 => ∃ y1 y2, σ = [some (.ref a), y1, y2] ∧ Same H1 H2) ⟨none, none, rfl, Same.refl _⟩ (fun i σ H2 _ ⟨_, _, _, s2⟩ => hG _ fun b _ o => s2 b o) ?_ ?_
    · rintro i x σ H2 H2' hi ⟨y1, y2, rfl, s2⟩ ⟨rfl, ex⟩
      obtain ⟨r, er, b, rfl, hb⟩ := Paired.getR hp ex
      have hrm : r ∈ m := List.mem_of_getElem? er
      -- if not isinstance(row, (list, tuple))
      refine ⟨_, rfl, by show 2 ≤ sizeLine; decide, fun p2 np2 => ?_⟩
      have s3 : Same H2' (upd H2' p2 (.tup [.ty "list", .ty "tuple"])) := same_upd np2
      have hb3 := hb.same (s1.trans (s2.trans s3))
      obtain ⟨n2, hn2, ty2⟩ := seq_ty hb3
      refine ⟨.ref b, p2, [.ty "list", .ty "tuple"], _, [.type "list", .type "tuple"], true, rfl, upd_same, .cons (.ty _) (.cons (.ty _) .nil), ty2, kit_lt hn2, true, rfl, ?_⟩
      refine iteF ?_
      -- if not all([is_integer(item) for item in row])
      refine ⟨_, rfl, b, _, rfl, hb3, fun J2 G2 W2 hG2 D hD => ?_⟩
      refine lc_all W2 hD (by rw [List.length_map]; exact hw _ hrm) (fun H4 s4 => hG2 H4 fun b _ o => s4 b o) (fun _ v _ => v = .bl true) (fun _ _ _ _ _ _ _ h => h) ?_ gm_name ?_
      · rintro j y H4 H4' acc Ko hj s4 eD ⟨rfl, ey⟩ k
        obtain ⟨z, ez, rfl⟩ := ints_get ey
        refine ⟨rfl, ?_⟩
        exact ⟨_, rfl, z, rfl, k _ _ (Same.refl _) rfl⟩
      · intro H4 l s4 eD hl2
        refine ⟨D, List.replicate l.length true, rfl, .inl (.inl (by rw [← paired_true hl2]; exact eD)), true, by rw [all_true], ?_⟩
        refine iteF ?_
        exact ⟨_, _, rfl, s2.trans (s3.trans s4)⟩
    · rintro σ H2 ⟨y1, y2, rfl, s2⟩
      have sm := s1.trans s2
      -- return tuple([tuple(row) for row in rows])
      refine ⟨_, rfl, a, ws, rfl, hs.same sm, fun J2 G2 W2 hG2 D hD => ?_⟩
      refine lc_all W2 hD (by omega) (fun H4 s4 => hG2 H4 fun b _ o => s4 b o) (fun i v H4 => ∃ r, m[i]? = some r ∧ TRow K H4 v r) (fun i v H4 H5 acc e o ⟨r, er, h⟩ => ⟨r, er, TRow.off e o h⟩) ?_ gm_name ?_
      · rintro i x H4 H4' acc Ko hi s4 eD ⟨rfl, ex⟩ k
        obtain ⟨r, er, b, rfl, hb⟩ := Paired.getR hp ex
        refine ⟨rfl, ?_⟩
        refine ⟨_, rfl, b, r.map V.int, rfl, ?_⟩
        rcases hb.same (sm.trans s4) with hb' | hb'
        · refine .inl ⟨hb', fun t nt => ?_⟩
          exact k _ _ (same_upd nt) ⟨r, er, t, rfl, .inl (.inl upd_same)⟩
        · refine .inr ⟨hb', ?_⟩
          exact k _ _ (Same.refl _) ⟨r, er, b, rfl, hb'⟩
      · intro H4 l s4 eD hpl
        refine ⟨D, l, rfl, .inl ⟨.inl (.inl eD), fun t nt => ?_⟩⟩
        refine q _ _ (sm.trans (s4.trans (same_upd nt))) ⟨t, l, rfl, .inl (.inl upd_same), ?_⟩
        exact L2.Paired.mapP (paired_at (m := m) (by omega) hpl) fun _ _ => TRow.same (same_upd nt)
theorem cal_checked_rows (T : Top K mg) (hN : base.NoSeer) (hT : P.given.tree = none) : Cal P w K mg base 2 "checked_rows" (sp_checked_rows K) [] := ⟨⟨_, _, _, [], ok_checked_rows T hN hT, T.g_checked_rows, T.F_checked_rows.kp, T.b_checked_rows, .nil⟩⟩
/-! ### checked_width -/
def sp_checked_width (K : PySem.W.Frag) : Sp := fun vs H Q _ => ∃ (v : V) (m : List (List Int)) (w : Nat), vs = [v, .int w] ∧ TRows K H v m ∧ m.length ≤ 1000 ∧ (∀ r ∈ m, r.length = w) ∧ ∀ H', Same H H' → Q (.int w) H'
theorem ok_checked_width (T : Top K mg) (hN : base.NoSeer) (hT : P.given.tree = none) : FnOk P w K mg base CX0 2 T.a_checked_width T.d_checked_width ["rows", "width"] (sp_checked_width K) := by
  refine T.F_checked_width.ok sc_checked_width (fun vs H Q E h => ?_) (fun cdv A outer s H vs Q E hr h => ?_)
  · obtain ⟨v, m, w, rfl, _⟩ := h
    rfl
  · obtain ⟨v, m, w, rfl, hm, hl, hw, q⟩ := h
    obtain ⟨a, ws, rfl, hs, hp⟩ := id hm
    have lw := Paired.length hp
    refine ⟨_, (pss_cons (ps_if (pt_cmpR op_isN (pv 1) pe_non (nomark _))
      (pss_one (ps_set (i := 1) sc_checked_width.nd rfl (by first | exact .inl rfl | exact .inr rfl) (pe_ifExp (pt_cmpR op_gt (pe_callB (lenS K rfl) (by rfl) T.z_len (by decide +kernel) (pa_cons (pv 0) pa_nil)) pe_int (nomark _)) (pe_callB (lenS K rfl) (by rfl) T.z_len (by decide +kernel) (pa_cons (pe_ix (ixT K rfl) (pv 0) pe_int (fun _ _ => rfl)) pa_nil)) pe_int)))
      pss_nil)
      (pss_cons (ps_if (PW.pt (pw_or (pt_not (pt_val (pe_c (cal_is_integer T hN hT) hr (by decide) (by rfl) (pa_cons (pv 1) pa_nil)))) (pw_or1 (pt_cmpR op_lt (pv 1) pe_int (nomark _)))))
      (pss_one ps_never)
      pss_nil)
      (pss_cons (ps_if (pt_not (pt_val (pe_callB (allK K rfl rfl) (by rfl) T.z_all (by decide +kernel) (pa_cons (pe_lc (own := [("row", 2)]) (g := (gName 2)) (by rfl) sc_checked_width.nd (piS K rfl (pv 0)) ((by show BlkOk ["rows", "width", "row"] (defScope s_checked_width) _ _; exact blkOk_by (by decide +kernel))) (fun _ _ _ _ _ => (pg_name (i := 2) sc_checked_width.nd rfl (by first | exact .inl rfl | exact .inr rfl))) (fun _ _ _ _ _ => pts_nil) (fun _ _ _ _ _ => (pe_cmpR op_eq (pe_callB (lenS K rfl) (by rfl) T.z_len (by decide +kernel) (pa_cons (pv 2) pa_nil)) (pv 1) (nomark _)))) pa_nil))))
      (pss_one ps_never)
      pss_nil)
      (pss_one (ps_ret (pv 1)))))), ?_⟩
    -- if width is None
    refine ⟨_, rfl, rfl, _, rfl, ?_⟩
    rw [show decide (V.int (w : Int) = V.non) = false from decide_eq_false fun z => by cases z]
    refine iteF ?_
    -- if not is_integer(width) or width < 0
    refine ⟨_, rfl, _, rfl, true, rfl, iteF ⟨_, rfl, _, _, rfl, rfl, _, rfl, ?_⟩⟩
    rw [decide_eq_false (by omega)]
    refine iteF ?_
    -- if not all([len(row) == width for row in rows])
    refine ⟨_, rfl, a, ws, rfl, .inr hs, fun J2 G2 W2 hG2 D hD => ?_⟩
    refine lc_all W2 hD (by omega) (fun H4 s4 => hG2 H4 fun b _ o => s4 b o) (fun _ v _ => v = .bl true) (fun _ _ _ _ _ _ _ h => h) ?_ gm_name ?_
    · rintro i x H4 H4' acc Ko hi s4 eD ⟨rfl, ex⟩ k
      obtain ⟨r, er, b, rfl, hb⟩ := Paired.getR hp ex
      refine ⟨rfl, ?_⟩
      refine ⟨_, rfl, b, _, rfl, .inr (Same.seqT s4 hb), _, rfl, rfl, ?_⟩
      rw [List.length_map, hw r (List.mem_of_getElem? er), decide_eq_true rfl]
      exact k _ _ (Same.refl _) rfl
    · intro H4 l s4 eD hl2
      refine ⟨D, List.replicate l.length true, rfl, .inl (.inl (by rw [← paired_true hl2]; exact eD)), true, by rw [all_true], ?_⟩
      refine iteF ?_
      exact ⟨_, rfl, q _ s4⟩
theorem cal_checked_width (T : Top K mg) (hN : base.NoSeer) (hT : P.given.tree = none) : Cal P w K mg base 2 "checked_width" (sp_checked_width K) [] := ⟨⟨_, _, _, [], ok_checked_width T hN hT, T.g_checked_width, T.F_checked_width.kp, T.b_checked_width, .nil⟩⟩
/-! ### Grid.__init__ -/
def sp_Grid_init (K : PySem.W.Frag) (C : Addr) : Sp := fun vs H Q _ => ∃ (p dx : Addr) (v : V) (m : List (List Int)) (w : Nat), vs = [.ref p, v, .int w] ∧ H p = some (.ins C dx []) ∧ IRows K H v m ∧ m.length ≤ 1000 ∧ w ≤ 1000 ∧ (∀ r ∈ m, r.length = w) ∧
  ∀ t H', Off p H H' → H' p = some (.ins C dx (flds t w)) → TRows K H' t m → Q .non H'
theorem trows_off {K : PySem.W.Frag} {H H' : Hp} {p C dx : Addr} {fs : List (Str × V)} {t : V} {m : List (List Int)} (e : H p = some (.ins C dx fs)) (o : Off p H H') (h : TRows K H t m) : TRows K H' t m := by
  have f : ∀ {a : Addr} {xs : List V}, SqT K H a xs → SqT K H' a xs := fun {a xs} h => by
    rcases h with (h | ⟨u, h⟩) | h
    · exact .inl (.inl (o _ _ (ne_of h e (by intro z; cases z)) h))
    · exact .inl (.inr ⟨u, o _ _ (ne_of h e (by intro z; cases z)) h⟩)
    · exact .inr h
  obtain ⟨a, vs, rfl, hs, hp⟩ := h
  exact ⟨a, vs, rfl, f hs, L2.Paired.mapP hp fun v r ⟨b, e, h⟩ => ⟨b, e, f h⟩⟩
theorem ok_Grid_init (T : Top K mg) (hN : base.NoSeer) (hT : P.given.tree = none) : FnOk P w K mg base CX0 3 T.a_Grid_init T.d_Grid_init ["self", "rows", "width"] (sp_Grid_init K T.C_Grid) := by
  refine T.F_Grid_init.ok sc_Grid_init (fun vs H Q E h => ?_) (fun cdv A outer s H vs Q E hr h => ?_)
  · obtain ⟨p, dx, v, m, w, rfl, _⟩ := h
    rfl
  · obtain ⟨p, dx, v, m, w, rfl, hp, hm, hl, hw, hrw, q⟩ := h
    refine ⟨_, PSs.nox (pss_cons (ps_fld (pv 0) (pe_c (cal_checked_rows T hN hT) hr (by decide) (by rfl) (pa_cons (pv 1) pa_nil)) rfl)
      (pss_one (ps_fld (pv 0) (pe_c (cal_checked_width T hN hT) hr (by decide) (by rfl) (pa_cons (fldK K rfl (pv 0) rfl) (pa_cons (pv 2) pa_nil))) rfl))), ?_⟩
    refine ⟨_, rfl, v, m, rfl, hm, hl, fun r hr => by rw [hrw r hr]; exact hw, fun t H1 s1 ht => ?_⟩
    have hp1 := s1 _ _ hp
    refine ⟨_, rfl, p, T.C_Grid, dx, [], rfl, hp1, T.cl_Grid, T.n_rows, by show 0 < 1000; decide, ?_⟩
    refine ⟨_, rfl, p, T.C_Grid, dx, _, t, rfl, upd_same, T.cl_Grid, T.n_rows, ?_, ?_⟩
    · rw [lookup_putF, if_pos rfl]
    have ht2 : TRows K (upd H1 p (.ins T.C_Grid dx (putF "rows" t []))) t m := trows_off hp1 Off.upd ht
    refine ⟨_, rfl, t, m, w, rfl, ht2, hl, hrw, fun H2 s2 => ?_⟩
    have hp2 := s2 _ _ upd_same
    refine ⟨_, rfl, p, T.C_Grid, dx, _, rfl, hp2, T.cl_Grid, T.n_width, by show 1 < 1000; decide, ?_⟩
    refine q t _ (fun b o n e => ?_) upd_same (trows_off hp2 Off.upd (ht2.same s2))
    rw [upd_ne n]
    exact s2 _ _ (Off.upd _ _ n (s1 _ _ e))
theorem mak_Grid (T : Top K mg) (hN : base.NoSeer) (hT : P.given.tree = none) : Mak P w K mg base 3 "Grid" T.C_Grid (sp_Grid_init K T.C_Grid) [] := ⟨⟨_, _, _, [], T.mk_Grid, ok_Grid_init T hN hT, T.g_Grid, T.b_Grid_init, .nil⟩⟩
/-- what a call Grid(rows, width) asks and gives -/
theorem make_grid {K : PySem.W.Frag} {C : Addr} {H1 : Hp} {v : V} {m : List (List Int)} {w : Nat} {Q : VK} {E : XK} (hm : IRows K H1 v m) (hl : m.length ≤ 1000) (hw : w ≤ 1000) (hrw : ∀ r ∈ m, r.length = w) (q : ∀ g H', Same H1 H' → IsGrid K C H' g m w → Q g H') :
    ∀ x dx, H1 x = none → H1 dx = none → dx ≠ x → sp_Grid_init K C (.ref x :: ([v, .int w] ++ [])) (upd (upd H1 dx (.own x)) x (.ins C dx [])) (fun v H2 => v = .non ∧ Q (.ref x) H2) E := fun x dx nx nd ne => by
  have s0 : Same H1 (upd (upd H1 dx (.own x)) x (.ins C dx [])) := fun b o e => by
    rw [upd_ne (ne_of_none e nx), upd_ne (ne_of_none e nd)]
    exact e
  refine ⟨x, dx, v, m, w, rfl, upd_same, hm.same s0, hl, hw, hrw, fun t H' o ho ht => ⟨rfl, ?_⟩⟩
  exact q _ _ (fun b u e => o _ _ (ne_of_none e nx) (s0 _ _ e)) ⟨⟨x, dx, t, rfl, ho, ht⟩, hrw⟩

end
end K06
namespace K06
open PySem PySem.Spec PyProof.Rows L2 Gm
open C8 (Cal Met Mak pe_c pe_mt pe_mt0 pe_mk)
section
variable {P : Program} {w : World} {K : PySem.W.Frag} {mg : Str → Option Value} {base : Heap}
/-! ### dot -/
def dotI (xs ys : List Int) : Int := (List.zipWith (· * ·) xs ys).sum
def sp_dot (K : PySem.W.Frag) : Sp := fun vs H Q _ => ∃ v1 v2 xs ys B1 B2, vs = [v1, v2] ∧ TRow K H v1 xs ∧ TRow K H v2 ys ∧ xs.length = ys.length ∧ xs.length ≤ 1000 ∧ Bits B1 xs ∧ Bits B2 ys ∧ B1 + B2 ≤ 134217728 ∧ ∀ H', Same H H' → Q (.int (dotI xs ys)) H'
def sp_Grid_len (K : PySem.W.Frag) (C : Addr) : Sp := fun vs H Q _ => ∃ v m w, vs = [v] ∧ IsGrid K C H v m w ∧ Q (.int m.length) H
def sp_Grid_is_square (K : PySem.W.Frag) (C : Addr) : Sp := fun vs H Q _ => ∃ v m w, vs = [v] ∧ IsGrid K C H v m w ∧ Q (.bl (decide (m.length = w))) H
theorem m_is_square (t : V) (w : Nat) : (flds t w).lookup ("is_square" : Str) = none := flds_no t w (by decide +kernel) (by decide +kernel)
theorem m_transposed (t : V) (w : Nat) : (flds t w).lookup ("transposed" : Str) = none := flds_no t w (by decide +kernel) (by decide +kernel)
theorem m_determinant (t : V) (w : Nat) : (flds t w).lookup ("determinant" : Str) = none := flds_no t w (by decide +kernel) (by decide +kernel)
theorem m_adjugate (t : V) (w : Nat) : (flds t w).lookup ("adjugate" : Str) = none := flds_no t w (by decide +kernel) (by decide +kernel)
theorem m_is_unimodular (t : V) (w : Nat) : (flds t w).lookup ("is_unimodular" : Str) = none := flds_no t w (by decide +kernel) (by decide +kernel)
def sp_check_square (K : PySem.W.Frag) (C : Addr) : Sp := fun vs H Q _ => ∃ v m w, vs = [v] ∧ IsGrid K C H v m w ∧ m.length = w ∧ Q .non H
def sp_Grid_determinant (K : PySem.W.Frag) (C : Addr) : Sp := fun vs H Q _ => ∃ v m n B, vs = [v] ∧ IsGrid K C H v m n ∧ Sq n B m ∧ n ≤ 5 ∧ B ≤ 1200000 ∧ ∀ H', Same H H' → Q (.int (bare n 1 1 m)) H'
def sp_Grid_is_unimodular (K : PySem.W.Frag) (C : Addr) : Sp := fun vs H Q _ => ∃ v m w, vs = [v] ∧ IsGrid K C H v m w ∧ ((m.length ≠ w ∧ ∀ H', Same H H' → Q (.bl false) H') ∨ ∃ B, Sq w B m ∧ w ≤ 5 ∧ B ≤ 1200000 ∧ ∀ H', Same H H' → Q (.bl (decide ((bare w 1 1 m).natAbs = 1))) H')

end
end K06
namespace K06
open PySem PySem.Spec PyProof.Rows L2 Gm
open C8 (Cal Met Mak pe_c pe_mt pe_mt0 pe_mk)
section
variable {P : Program} {w : World} {K : PySem.W.Frag} {mg : Str → Option Value} {base : Heap}
/-! ### transposed -/
def transp (m : List (List Int)) (w : Nat) : List (List Int) := (List.range w).map fun k => m.map fun r => r.getD k 0
theorem transp_len (m : List (List Int)) (w : Nat) : (transp m w).length = w := by
  unfold transp
  rw [List.length_map, List.length_range]
theorem transp_row {m : List (List Int)} {w : Nat} : ∀ r ∈ transp m w, r.length = m.length := fun r hr => by
  obtain ⟨k, _, rfl⟩ := List.mem_map.mp hr
  rw [List.length_map]
theorem transp_get {m : List (List Int)} {w k : Nat} (h : k < w) : (transp m w).getD k [] = m.map fun r => r.getD k 0 := by
  unfold transp
  rw [List.getD_eq_getElem?_getD, List.getElem?_map, List.getElem?_range h]
  rfl
def sp_Grid_transposed (K : PySem.W.Frag) (C : Addr) : Sp := fun vs H Q _ => ∃ v m w, vs = [v] ∧ IsGrid K C H v m w ∧ m.length ≤ 1000 ∧ w ≤ 1000 ∧ ∀ g H', Same H H' → IsGrid K C H' g (transp m w) m.length → Q g H'
theorem ok_Grid_transposed (T : Top K mg) (hN : base.NoSeer) (hT : P.given.tree = none) : FnOk P w K mg base CX0 5 T.a_Grid_transposed T.d_Grid_transposed ["self"] (sp_Grid_transposed K T.C_Grid) := by
  refine T.F_Grid_transposed.ok sc_Grid_transposed (fun vs H Q E h => ?_) (fun cdv A outer s H vs Q E hr h => ?_)
  · obtain ⟨v, m, w, rfl, _⟩ := h
    rfl
  · obtain ⟨v, m, n, rfl, G, hl, hw, q⟩ := h
    obtain ⟨⟨p, dx, t, rfl, ho, a, ws, rfl, hs, hp⟩, hrw⟩ := id G
    have lw := Paired.length hp
    refine ⟨_, (pss_cons (ps_set (i := 1) sc_Grid_transposed.nd rfl (by first | exact .inl rfl | exact .inr rfl) (pe_callTy (cr_range1) (by rfl) T.z_range (by decide +kernel) (pa_cons (fldK K rfl (pv 0) rfl) pa_nil)))
      (pss_one (ps_ret (pe_mk (mak_Grid T hN hT) hr (by decide) (by rfl) (pa_cons (pe_lc (own := [("k", 2)]) (g := (gName 2)) (by rfl) sc_Grid_transposed.nd (pi_rngv (pv 1)) ((by show BlkOk ["self", "places", "k", "row"] (defScope s_Grid_transposed) _ _; exact blkOk_by (by decide +kernel))) (fun _ _ _ _ _ => (pg_name (i := 2) sc_Grid_transposed.nd rfl (by first | exact .inl rfl | exact .inr rfl))) (fun _ _ _ _ _ => pts_nil) (fun _ _ _ _ _ => (pe_lc (own := [("row", 3)]) (g := (gName 3)) (by rfl) sc_Grid_transposed.nd (piS K rfl (fldK K rfl (pv 0) rfl)) ((by show BlkOk ["self", "places", "k", "row"] (relS _ (defScope s_Grid_transposed)) _ _; exact blkOk_by (by decide +kernel))) (fun _ _ _ _ _ => (pg_name (i := 3) sc_Grid_transposed.nd rfl (by first | exact .inl rfl | exact .inr rfl))) (fun _ _ _ _ _ => pts_nil) (fun _ _ _ _ _ => (pe_ix (ixT K rfl) (pv 3) (pv 2) (fun _ _ => rfl)))))) (pa_cons (pe_callB (lenS K rfl) (by rfl) T.z_len (by decide +kernel) (pa_cons (fldK K rfl (pv 0) rfl) pa_nil)) pa_nil)))))), ?_⟩
    -- places = range(self.width)
    refine ⟨_, rfl, p, T.C_Grid, dx, _, _, rfl, ho, T.cl_Grid, T.n_width, flds_width _ _, _, rfl, fun pr npr => ?_⟩
    have s1 : Same H (upd H pr (.rng 0 (n : Int))) := same_upd npr
    -- the outer comprehension
    refine ⟨_, rfl, pr, _, _, rfl, upd_same, ⟨by decide, by decide, by omega, by omega⟩, fun D hD => ?_⟩
    refine lc_all walk_range hD (by omega) (fun _ _ => trivial) (fun i v H4 => ∃ p, v = V.ref p ∧ p ≠ D ∧ H4 p = some (.lst (((transp m n).getD i []).map V.int))) lists_mono ?_ gm_name ?_
    · rintro i x H4 H4' acc Ko hi s4 eD ⟨rfl, rfl⟩ k
      have hi' : i < n := by omega
      refine ⟨rfl, ?_⟩
      -- the inner one
      have sm := s1.trans s4
      have ho4 := sm _ _ ho
      have hs4 := Same.seqT sm hs
      refine ⟨_, rfl, p, T.C_Grid, dx, _, _, rfl, ho4, T.cl_Grid, T.n_rows, flds_rows _ _, a, ws, rfl, .inr hs4, fun J2 G2 W2 hG2 D2 hD2 => ?_⟩
      refine lc_all W2 hD2 (by omega) (fun H5 s5 => hG2 H5 fun b _ o => s5 b o) (fun j v _ => ∃ z, ((transp m n).getD i [])[j]? = some z ∧ v = .int z) (fun _ _ _ _ _ _ _ h => h) ?_ gm_name ?_
      · rintro j y H5 H5' acc2 Ko2 hj s5 eD2 ⟨rfl, ey⟩ k2
        obtain ⟨r, er, b, rfl, hb⟩ := Paired.getR hp ey
        have hrl := hrw r (List.mem_of_getElem? er)
        refine ⟨rfl, ?_⟩
        refine ⟨_, rfl, _, rfl, b, _, _, _, rfl, rfl, Same.seqT (sm.trans s5) hb, at_of (j := i) (by omega) (ints_at (List.getElem?_eq_getElem (by omega))), ?_⟩
        refine k2 _ _ (Same.refl _) ⟨_, ?_, rfl⟩
        rw [transp_get hi', List.getElem?_map, er]
        show some (r.getD i 0) = some r[i]
        rw [List.getD_eq_getElem?_getD, List.getElem?_eq_getElem (by omega)]
        rfl
      · intro H5 l s5 eD2 hpl
        have el := ints_list (by rw [transp_get hi', List.length_map, lw]) hpl
        refine k _ _ s5 ⟨D2, rfl, ?_, by rw [← el]; exact eD2⟩
        rintro rfl
        rw [eD] at hD2
        cases hD2
    · intro H4 l s4 eD hpl
      have hrows := lists_rows (K := K) (m := transp m n) (by rw [transp_len]; omega) eD hpl
      have sm := s1.trans s4
      refine ⟨_, rfl, p, T.C_Grid, dx, _, _, rfl, sm _ _ ho, T.cl_Grid, T.n_rows, flds_rows _ _, a, ws, rfl, .inr (Same.seqT sm hs), ?_⟩
      rw [lw]
      exact make_grid hrows (by rw [transp_len]; exact hw) hl transp_row fun g H' s' G' => q g H' (sm.trans s') G'
theorem met_Grid_transposed (T : Top K mg) (hN : base.NoSeer) (hT : P.given.tree = none) : Met P w K mg base 5 T.C_Grid "transposed" (sp_Grid_transposed K T.C_Grid) [] := ⟨⟨_, _, _, [], T.cl_Grid, T.m_Grid_transposed, ok_Grid_transposed T hN hT, T.b_Grid_transposed, .nil⟩⟩
/-! ### a * b -/
def mulM (m1 m2 : List (List Int)) (w : Nat) : List (List Int) := m1.map fun r => (transp m2 w).map fun c => dotI r c
theorem mulM_len (m1 m2 : List (List Int)) (w : Nat) : (mulM m1 m2 w).length = m1.length := List.length_map ..
theorem mulM_row {m1 m2 : List (List Int)} {w : Nat} : ∀ r ∈ mulM m1 m2 w, r.length = w := fun r hr => by
  obtain ⟨k, _, rfl⟩ := List.mem_map.mp hr
  rw [List.length_map, transp_len]
theorem transp_bits {m : List (List Int)} {w B : Nat} (hw : ∀ r ∈ m, r.length = w) (hb : ∀ r ∈ m, Bits B r) : ∀ r ∈ transp m w, Bits B r := fun r hr x hx => by
  obtain ⟨k, hk, rfl⟩ := List.mem_map.mp hr
  obtain ⟨r', hr', rfl⟩ := List.mem_map.mp hx
  have hk' : k < r'.length := by rw [hw r' hr']; exact List.mem_range.mp hk
  rw [List.getD_eq_getElem?_getD, List.getElem?_eq_getElem hk']
  exact hb r' hr' _ (List.getElem_mem _)
def sp_Grid_mul (K : PySem.W.Frag) (C : Addr) : Sp := fun vs H Q _ => ∃ v1 m1 w1 v2 m2 w2 B1 B2, vs = [v1, v2] ∧ IsGrid K C H v1 m1 w1 ∧ IsGrid K C H v2 m2 w2 ∧ w1 = m2.length ∧ m1.length ≤ 1000 ∧ m2.length ≤ 1000 ∧ w2 ≤ 1000 ∧
  (∀ r ∈ m1, Bits B1 r) ∧ (∀ r ∈ m2, Bits B2 r) ∧ B1 + B2 ≤ 134217728 ∧ ∀ g H', Same H H' → IsGrid K C H' g (mulM m1 m2 w2) w2 → Q g H'
def cutM (m : List (List Int)) (i j : Nat) : List (List Int) := (m.eraseIdx i).map fun r => r.eraseIdx j
theorem cutM_sq {n B : Nat} {m : List (List Int)} (h : Sq (n + 1) B m) {i j : Nat} (hi : i < n + 1) (hj : j < n + 1) : Sq n B (cutM m i j) := by
  have hi' : i < m.length := by rw [h.len]; exact hi
  refine ⟨?_, fun r hr => ?_, fun r hr => ?_⟩
  · unfold cutM
    rw [List.length_map, List.length_eraseIdx_of_lt hi', h.len]
    rfl
  · obtain ⟨r', hr', rfl⟩ := List.mem_map.mp hr
    have h1 := h.row r' (List.mem_of_mem_eraseIdx hr')
    rw [List.length_eraseIdx_of_lt (by omega), h1]
    rfl
  · obtain ⟨r', hr', rfl⟩ := List.mem_map.mp hr
    exact fun x hx => h.bits r' (List.mem_of_mem_eraseIdx hr') x (List.mem_of_mem_eraseIdx hx)
theorem erase_eq (l : List Int) (j : Nat) : l.take j ++ l.drop (j + 1) = l.eraseIdx j := (List.eraseIdx_eq_take_drop_succ l j).symm
def sp_minor (K : PySem.W.Frag) : Sp := fun vs H Q _ => ∃ (v : V) (m : List (List Int)) (n B i j : Nat), vs = [v, .int i, .int j] ∧ TRows K H v m ∧ Sq (n + 1) B m ∧ n ≤ 5 ∧ i < n + 1 ∧ j < n + 1 ∧ B ≤ 1200000 ∧ ∀ H', Same H H' → Q (.int (bare n 1 1 (cutM m i j))) H'
def sminor (n : Nat) (m : List (List Int)) (i j : Nat) : Int := if (i + j) % 2 = 1 then -bare n 1 1 (cutM m i j) else bare n 1 1 (cutM m i j)
def sp_signed_minor (K : PySem.W.Frag) : Sp := fun vs H Q _ => ∃ (v : V) (m : List (List Int)) (n B i j : Nat), vs = [v, .int i, .int j] ∧ TRows K H v m ∧ Sq (n + 1) B m ∧ n ≤ 5 ∧ i < n + 1 ∧ j < n + 1 ∧ B ≤ 1200000 ∧ ∀ H', Same H H' → Q (.int (sminor n m i j)) H'
def adjM (n : Nat) (m : List (List Int)) : List (List Int) := (List.range m.length).map fun i => (List.range m.length).map fun j => sminor n m j i
theorem adjM_get {n i : Nat} {m : List (List Int)} (h : i < m.length) : (adjM n m).getD i [] = (List.range m.length).map fun j => sminor n m j i := by
  unfold adjM
  rw [List.getD_eq_getElem?_getD, List.getElem?_map, List.getElem?_range h]
  rfl
theorem adjM_len (n : Nat) (m : List (List Int)) : (adjM n m).length = m.length := by
  unfold adjM
  rw [List.length_map, List.length_range]
theorem adjM_row {n : Nat} {m : List (List Int)} : ∀ r ∈ adjM n m, r.length = m.length := fun r hr => by
  obtain ⟨k, _, rfl⟩ := List.mem_map.mp hr
  rw [List.length_map, List.length_range]
def sp_adjugate_of (K : PySem.W.Frag) : Sp := fun vs H Q _ => ∃ (v : V) (m : List (List Int)) (n B : Nat), vs = [v] ∧ TRows K H v m ∧ Sq n B m ∧ n ≤ 5 ∧ B ≤ 1200000 ∧ ∀ v' H', Same H H' → IRows K H' v' (adjM (n - 1) m) → Q v' H'
def sp_Grid_adjugate (K : PySem.W.Frag) (C : Addr) : Sp := fun vs H Q _ => ∃ v m n B, vs = [v] ∧ IsGrid K C H v m n ∧ Sq n B m ∧ n ≤ 5 ∧ B ≤ 1200000 ∧ ∀ g H', Same H H' → IsGrid K C H' g (adjM (n - 1) m) n → Q g H'

end
end K06
namespace K06
open PySem PySem.Spec PyProof.Rows L2 Gm
open C8 (Cal Met Mak pe_c pe_mt pe_mt0 pe_mk)
section
variable {P : Program} {w : World} {K : PySem.W.Frag} {mg : Str → Option Value} {base : Heap}
/-! ### scaled -/
def scaleM (k : Int) (m : List (List Int)) : List (List Int) := m.map fun r => r.map fun x => k * x
theorem scaleM_len (k : Int) (m : List (List Int)) : (scaleM k m).length = m.length := List.length_map ..
theorem scaleM_row {k : Int} {m : List (List Int)} {w : Nat} (h : ∀ r ∈ m, r.length = w) : ∀ r ∈ scaleM k m, r.length = w := fun r hr => by
  obtain ⟨x, hx, rfl⟩ := List.mem_map.mp hr
  rw [List.length_map]
  exact h x hx
def sp_Grid_scaled (K : PySem.W.Frag) (C : Addr) : Sp := fun vs H Q _ => ∃ v m w k Bk B, vs = [v, .int k] ∧ IsGrid K C H v m w ∧ m.length ≤ 1000 ∧ w ≤ 1000 ∧ k.natAbs < 2 ^ Bk ∧ (∀ r ∈ m, Bits B r) ∧ Bk + B ≤ 134217728 ∧ ∀ g H', Same H H' → IsGrid K C H' g (scaleM k m) w → Q g H'
theorem m_scaled (t : V) (w : Nat) : (flds t w).lookup ("scaled" : Str) = none := flds_no t w (by decide +kernel) (by decide +kernel)
theorem m_times (t : V) (w : Nat) : (flds t w).lookup ("times" : Str) = none := flds_no t w (by decide +kernel) (by decide +kernel)
theorem m_before (t : V) (w : Nat) : (flds t w).lookup ("before" : Str) = none := flds_no t w (by decide +kernel) (by decide +kernel)
theorem m_stacked (t : V) (w : Nat) : (flds t w).lookup ("stacked" : Str) = none := flds_no t w (by decide +kernel) (by decide +kernel)
/-! ### -a -/
def sp_Grid_neg (K : PySem.W.Frag) (C : Addr) : Sp := fun vs H Q _ => ∃ v m w B, vs = [v] ∧ IsGrid K C H v m w ∧ m.length ≤ 1000 ∧ w ≤ 1000 ∧ (∀ r ∈ m, Bits B r) ∧ B ≤ 1200000 ∧ ∀ g H', Same H H' → IsGrid K C H' g (scaleM (-1) m) w → Q g H'
def timesM (m : List (List Int)) (r : List Int) : List Int := m.map fun o => dotI o r
def sp_Grid_times (K : PySem.W.Frag) (C : Addr) : Sp := fun vs H Q _ => ∃ v m w u r B1 B2, vs = [v, u] ∧ IsGrid K C H v m w ∧ TRow K H u r ∧ r.length = w ∧ m.length ≤ 1000 ∧ w ≤ 1000 ∧ (∀ o ∈ m, Bits B1 o) ∧ Bits B2 r ∧ B1 + B2 ≤ 134217728 ∧ ∀ v' H', Same H H' → TRow K H' v' (timesM m r) → Q v' H'
def sp_Grid_before (K : PySem.W.Frag) (C : Addr) : Sp := fun vs H Q _ => ∃ v m w u r B1 B2, vs = [v, u] ∧ IsGrid K C H v m w ∧ TRow K H u r ∧ r.length = m.length ∧ m.length ≤ 1000 ∧ w ≤ 1000 ∧ (∀ o ∈ m, Bits B1 o) ∧ Bits B2 r ∧ B1 + B2 ≤ 134217728 ∧ ∀ v' H', Same H H' → TRow K H' v' (timesM (transp m w) r) → Q v' H'

end
end K06
namespace K06
open PySem PySem.Spec PyProof.Rows L2 Gm
open C8 (Cal Met Mak pe_c pe_mt pe_mt0 pe_mk)
section
variable {P : Program} {w : World} {K : PySem.W.Frag} {mg : Str → Option Value} {base : Heap}
/-! ### tables as data -/
def pdR (r : List Int) : PyData := .tuple (r.map .int)
def pdM (m : List (List Int)) : PyData := .tuple (m.map pdR)
theorem dp_ints {K : PySem.W.Frag} {H : Hp} : ∀ r : List Int, DpAll K H (r.map V.int) (r.map PyData.int)
  | [] => .nil
  | _ :: r => .cons (.int _) (dp_ints r)
theorem dp_row {K : PySem.W.Frag} {H : Hp} {v : V} {r : List Int} (h : TRow K H v r) : Dp K H v (pdR r) := by
  obtain ⟨a, rfl, hs⟩ := h
  exact .tup hs (dp_ints r)
theorem dp_paired {K : PySem.W.Frag} {H : Hp} : ∀ {vs : List V} {m : List (List Int)}, Paired (TRow K H) vs m → DpAll K H vs (m.map pdR)
  | _, _, .nil => .nil
  | _, _, .cons r t => .cons (dp_row r) (dp_paired t)
theorem dp_rows {K : PySem.W.Frag} {H : Hp} {v : V} {m : List (List Int)} (h : TRows K H v m) : Dp K H v (pdM m) := by
  obtain ⟨a, vs, rfl, hs, hp⟩ := h
  exact .tup hs (dp_paired hp)
theorem lay_ints : ∀ r : List Int, PyData.canLayAll0 (r.map PyData.int) = true
  | [] => by simp [PyData.canLayAll0]
  | _ :: r => by simp [PyData.canLayAll0, PyData.canLay0, lay_ints r]
theorem lay_rows : ∀ m : List (List Int), PyData.canLayAll0 (m.map pdR) = true
  | [] => by simp [PyData.canLayAll0]
  | r :: m => by simp [PyData.canLayAll0, PyData.canLay0, pdR, lay_rows m, lay_ints r]
theorem lay_pdM (m : List (List Int)) : (pdM m).canLay0 = true := by simp [pdM, PyData.canLay0, lay_rows m]
theorem dep_ints : ∀ r : List Int, PyData.depthAll (r.map PyData.int) = 0
  | [] => by simp [PyData.depthAll]
  | _ :: r => by simp [PyData.depthAll, PyData.depth, dep_ints r]
theorem dep_rows : ∀ m : List (List Int), PyData.depthAll (m.map pdR) ≤ 1
  | [] => by simp [PyData.depthAll]
  | r :: m => by
    have := dep_rows m
    simp only [List.map_cons, PyData.depthAll, PyData.depth, pdR, dep_ints r]
    omega
theorem shaped_pdM (m : List (List Int)) : SeqAt.shaped (pdM m) = true := by
  unfold SeqAt.shaped
  rw [Bool.and_eq_true, lay_pdM]
  refine ⟨rfl, decide_eq_true ?_⟩
  have := dep_rows m
  simp only [pdM, PyData.depth]
  omega
/-- equal tables are equal -/
theorem ne_rows {K : PySem.W.Frag} {H : Hp} {v u : V} {m1 m2 : List (List Int)} {Q : VK} (h1 : TRows K H v m1) (h2 : TRows K H u m2) (e : m1 = m2) (q : Q (.bl false) H) : rNeD K v u H Q := by
  subst e
  refine ⟨pdM m1, pdM m1, dp_rows h1, dp_rows h2, shaped_pdM _, shaped_pdM _, ?_⟩
  rw [PySem.SeqAt.eqv_refl _ (lay_pdM m1)]
  exact q

end
end K06
namespace K06
open PySem PySem.Spec PyProof.Rows L2 Gm
open C8 (Cal Met Mak pe_c pe_mt pe_mt0 pe_mk)
section
variable {P : Program} {w : World} {K : PySem.W.Frag} {mg : Str → Option Value} {base : Heap}
theorem row_ty {K : PySem.W.Frag} {H : Hp} {a : Addr} {xs : List V} (h : SqT K H a xs) : TyX K H (.ref a) (.type "tuple") := by
  rcases h with (h | ⟨o, h⟩) | ⟨o, its, n, h, c, _⟩
  · exact .base (.tup h)
  · exact .fTuple h
  · exact .kTuple h c

end
end K06
namespace K06
open PySem PySem.Spec PyProof.Rows L2 Gm
open C8 (Cal Met Mak pe_c pe_mt pe_mt0 pe_mk)
section
variable {P : Program} {w : World} {K : PySem.W.Frag} {mg : Str → Option Value} {base : Heap}
theorem eqv_ints : ∀ r q : List Int, PyData.eqvAll (r.map PyData.int) (q.map PyData.int) = decide (r = q)
  | [], [] => by simp [PyData.eqvAll]
  | [], b :: q => by simp [PyData.eqvAll]
  | a :: r, [] => by simp [PyData.eqvAll]
  | a :: r, b :: q => by
    simp only [List.map_cons, PyData.eqvAll, PyData.eqv, eqv_ints r q]
    by_cases h : a = b
    · subst h
      by_cases h2 : r = q
      · subst h2
        simp
      · simp [h2]
    · simp [h]
theorem eqv_rows : ∀ m l : List (List Int), PyData.eqvAll (m.map pdR) (l.map pdR) = decide (m = l)
  | [], [] => by simp [PyData.eqvAll]
  | [], b :: q => by simp [PyData.eqvAll]
  | a :: r, [] => by simp [PyData.eqvAll]
  | a :: r, b :: q => by
    simp only [List.map_cons, PyData.eqvAll, pdR, PyData.eqv, eqv_ints a b]
    have ih := eqv_rows r q
    rw [ih]
    by_cases h : a = b
    · subst h
      by_cases h2 : r = q
      · subst h2
        simp
      · simp [h2]
    · simp [h]
theorem eqv_pdM (m l : List (List Int)) : PyData.eqv (pdM m) (pdM l) = decide (m = l) := by
  simp only [pdM, PyData.eqv]
  exact eqv_rows m l
theorem eq_rows {K : PySem.W.Frag} {H : Hp} {v u : V} {m1 m2 : List (List Int)} {Q : VK} (h1 : TRows K H v m1) (h2 : TRows K H u m2) (q : Q (.bl (decide (m1 = m2))) H) : rEqD K v u H Q := by
  refine ⟨pdM m1, pdM m2, dp_rows h1, dp_rows h2, shaped_pdM _, shaped_pdM _, ?_⟩
  rw [eqv_pdM]
  exact q
theorem tup_not {K : PySem.W.Frag} {C : Addr} : PySem.W.subIn K (.type "tuple") (.ref C) = some false := by
  have e : fastBuiltinMro "tuple" = some [.type "tuple", .type "object"] := by decide +kernel
  show (fastBuiltinMro "tuple").map (·.contains (.ref C)) = some false
  rw [e] <;> rfl
/-! ### a == b -/
def sp_Grid_eq (K : PySem.W.Frag) (C : Addr) : Sp := fun vs H Q _ => ∃ v m w u m2, vs = [v, u] ∧ IsGrid K C H v m w ∧ ((∃ w2, IsGrid K C H u m2 w2 ∧ Q (.bl (decide (m = m2 ∧ w = w2))) H) ∨ (TRows K H u m2 ∧ Q (.bl false) H))
theorem paired_app {α β : Type} {F : α → β → Prop} : ∀ {xs : List α} {ys : List β} {xs2 : List α} {ys2 : List β}, Paired F xs ys → Paired F xs2 ys2 → Paired F (xs ++ xs2) (ys ++ ys2)
  | _, _, _, _, .nil, h => h
  | _, _, _, _, .cons r t, h => .cons r (paired_app t h)
def sp_Grid_stacked (K : PySem.W.Frag) (C : Addr) : Sp := fun vs H Q _ => ∃ v m w u m2, vs = [v, u] ∧ IsGrid K C H v m w ∧ IsGrid K C H u m2 w ∧ m.length + m2.length ≤ 1000 ∧ w ≤ 1000 ∧ ∀ g H', Same H H' → IsGrid K C H' g (m ++ m2) w → Q g H'

end
end K06
namespace K06
open PySem PySem.Spec PyProof.Rows L2 Gm
open C8 (Cal Met Mak pe_c pe_mt pe_mt0 pe_mk)
section
variable {P : Program} {w : World} {K : PySem.W.Frag} {mg : Str → Option Value} {base : Heap}
theorem bools_list : ∀ {is : List Nat} {l : List V} {f : Nat → Bool}, Paired (fun i v => v = V.bl (f i)) is l → l = (is.map f).map V.bl
  | _, _, _, .nil => rfl
  | _, _, _, .cons r t => by
    rw [r, bools_list t]
    rfl
theorem not_all {f : Nat → Bool} {n i : Nat} (hi : i < n) (h : f i = false) : ((List.range n).map f).all id = false := by
  rw [List.all_eq_false]
  exact ⟨false, List.mem_map.mpr ⟨i, List.mem_range.mpr hi, h⟩, by simp⟩

end
end K06
namespace K06
open PySem PySem.Spec PyProof.Rows L2 Gm
open C8 (Cal Met Mak pe_c pe_mt pe_mt0 pe_mk)
section
variable {P : Program} {w : World} {K : PySem.W.Frag} {mg : Str → Option Value} {base : Heap}
/-! ### the width that isn't told -/
def sp_checked_width_N (K : PySem.W.Frag) : Sp := fun vs H Q _ => ∃ (v : V) (m : List (List Int)) (w : Nat), vs = [v, .non] ∧ TRows K H v m ∧ 0 < m.length ∧ m.length ≤ 1000 ∧ (∀ r ∈ m, r.length = w) ∧ ∀ H', Same H H' → Q (.int w) H'
theorem ok_checked_width_N (T : Top K mg) (hN : base.NoSeer) (hT : P.given.tree = none) : FnOk P w K mg base CX0 2 T.a_checked_width T.d_checked_width ["rows", "width"] (sp_checked_width_N K) := by
  refine T.F_checked_width.ok sc_checked_width (fun vs H Q E h => ?_) (fun cdv A outer s H vs Q E hr h => ?_)
  · obtain ⟨v, m, w, rfl, _⟩ := h
    rfl
  · obtain ⟨v, m, w, rfl, hm, h0, hl, hw, q⟩ := h
    obtain ⟨a, ws, rfl, hs, hp⟩ := id hm
    have lw := Paired.length hp
    obtain ⟨v0, ev0⟩ : ∃ v0, ws[0]? = some v0 := ⟨ws[0]'(by omega), List.getElem?_eq_getElem (by omega)⟩
    obtain ⟨r0, er0, b0, rfl, hb0⟩ := Paired.getR hp ev0
    have hr0 := hw r0 (List.mem_of_getElem? er0)
    refine ⟨_, (pss_cons (ps_if (pt_cmpR op_isN (pv 1) pe_non (nomark _))
      (pss_one (ps_set (i := 1) sc_checked_width.nd rfl (by first | exact .inl rfl | exact .inr rfl) (pe_ifExp (pt_cmpR op_gt (pe_callB (lenS K rfl) (by rfl) T.z_len (by decide +kernel) (pa_cons (pv 0) pa_nil)) pe_int (nomark _)) (pe_callB (lenS K rfl) (by rfl) T.z_len (by decide +kernel) (pa_cons (pe_ix (ixT K rfl) (pv 0) pe_int (fun _ _ => rfl)) pa_nil)) pe_int)))
      pss_nil)
      (pss_cons (ps_if (PW.pt (pw_or (pt_not (pt_val (pe_c (cal_is_integer T hN hT) hr (by decide) (by rfl) (pa_cons (pv 1) pa_nil)))) (pw_or1 (pt_cmpR op_lt (pv 1) pe_int (nomark _)))))
      (pss_one ps_never)
      pss_nil)
      (pss_cons (ps_if (pt_not (pt_val (pe_callB (allK K rfl rfl) (by rfl) T.z_all (by decide +kernel) (pa_cons (pe_lc (own := [("row", 2)]) (g := (gName 2)) (by rfl) sc_checked_width.nd (piS K rfl (pv 0)) ((by show BlkOk ["rows", "width", "row"] (defScope s_checked_width) _ _; exact blkOk_by (by decide +kernel))) (fun _ _ _ _ _ => (pg_name (i := 2) sc_checked_width.nd rfl (by first | exact .inl rfl | exact .inr rfl))) (fun _ _ _ _ _ => pts_nil) (fun _ _ _ _ _ => (pe_cmpR op_eq (pe_callB (lenS K rfl) (by rfl) T.z_len (by decide +kernel) (pa_cons (pv 2) pa_nil)) (pv 1) (nomark _)))) pa_nil))))
      (pss_one ps_never)
      pss_nil)
      (pss_one (ps_ret (pv 1)))))), ?_⟩
    refine ⟨_, rfl, rfl, _, rfl, ?_⟩
    rw [decide_eq_true rfl]
    refine iteT ?_
    refine ⟨_, rfl, a, ws, rfl, .inr hs, _, _, rfl, rfl, _, rfl, ?_⟩
    rw [decide_eq_true (by omega)]
    refine iteT ?_
    refine ⟨_, rfl, a, ws, _, _, rfl, rfl, hs, atI_nat (j := 0) ev0, b0, _, rfl, .inr hb0, ?_⟩
    rw [List.length_map, hr0]
    refine ⟨_, rfl, _, rfl, true, rfl, iteF ⟨_, rfl, _, _, rfl, rfl, _, rfl, ?_⟩⟩
    rw [decide_eq_false (by omega)]
    refine iteF ?_
    refine ⟨_, rfl, a, ws, rfl, .inr hs, fun J2 G2 W2 hG2 D hD => ?_⟩
    refine lc_all W2 hD (by omega) (fun H4 s4 => hG2 H4 fun b _ o => s4 b o) (fun _ v _ => v = .bl true) (fun _ _ _ _ _ _ _ h => h) ?_ gm_name ?_
    · rintro i x H4 H4' acc Ko hi s4 eD ⟨rfl, ex⟩ k
      obtain ⟨r, er, b, rfl, hb⟩ := Paired.getR hp ex
      refine ⟨rfl, ?_⟩
      refine ⟨_, rfl, b, _, rfl, .inr (Same.seqT s4 hb), _, rfl, rfl, ?_⟩
      rw [List.length_map, hw r (List.mem_of_getElem? er), decide_eq_true rfl]
      exact k _ _ (Same.refl _) rfl
    · intro H4 l s4 eD hl2
      refine ⟨D, List.replicate l.length true, rfl, .inl (.inl (by rw [← paired_true hl2]; exact eD)), true, by rw [all_true], ?_⟩
      refine iteF ?_
      exact ⟨_, rfl, q _ s4⟩
theorem cal_checked_width_N (T : Top K mg) (hN : base.NoSeer) (hT : P.given.tree = none) : Cal P w K mg base 2 "checked_width" (sp_checked_width_N K) [] := ⟨⟨_, _, _, [], ok_checked_width_N T hN hT, T.g_checked_width, T.F_checked_width.kp, T.b_checked_width, .nil⟩⟩
def sp_checked_width_NX (K : PySem.W.Frag) (X : Addr) : Sp := fun vs H _ E => ∃ (v : V) (m : List (List Int)) (i : Nat), vs = [v, .non] ∧ TRows K H v m ∧ 0 < m.length ∧ m.length ≤ 1000 ∧ (∃ r0 r, m[0]? = some r0 ∧ m[i]? = some r ∧ r.length ≠ r0.length) ∧ ∀ H', Same H H' → E (.ref X) none H'
theorem ok_checked_width_NX (T : Top K mg) (hN : base.NoSeer) (hT : P.given.tree = none) : FnOk P w K mg base (L2.CX P w) 2 T.a_checked_width T.d_checked_width ["rows", "width"] (sp_checked_width_NX K T.X_Malformed) := by
  refine T.F_checked_width.okX sc_checked_width (fun vs H Q E h => ?_) (fun cdv A outer s H vs Q E hr h => ?_)
  · obtain ⟨v, m, i, rfl, _⟩ := h
    rfl
  · obtain ⟨v, m, i0, rfl, hm, h0, hl, ⟨r0, r1, er0, er1, hne⟩, q⟩ := h
    obtain ⟨a, ws, rfl, hs, hp⟩ := id hm
    have lw := Paired.length hp
    obtain ⟨v0, ev0, b0, rfl, hb0⟩ := Paired.getR (Paired.swap hp) er0
    refine ⟨_, (pss_cons (ps_if (pt_cmpR op_isN (pv 1) pe_non (nomark _))
      (pss_one (ps_set (i := 1) sc_checked_width.nd rfl (by first | exact .inl rfl | exact .inr rfl) (pe_ifExp (pt_cmpR op_gt (pe_callB (lenS K rfl) (by rfl) T.z_len (by decide +kernel) (pa_cons (pv 0) pa_nil)) pe_int (nomark _)) (pe_callB (lenS K rfl) (by rfl) T.z_len (by decide +kernel) (pa_cons (pe_ix (ixT K rfl) (pv 0) pe_int (fun _ _ => rfl)) pa_nil)) pe_int)))
      pss_nil)
      (pss_cons (ps_if (PW.pt (pw_or (pt_not (pt_val (pe_c (cal_is_integer T hN hT) hr (by decide) (by rfl) (pa_cons (pv 1) pa_nil)))) (pw_or1 (pt_cmpR op_lt (pv 1) pe_int (nomark _)))))
      (pss_one ps_never)
      pss_nil)
      (pss_cons (ps_if (pt_not (pt_val (pe_callB (allK K rfl rfl) (by rfl) T.z_all (by decide +kernel) (pa_cons (pe_lc (own := [("row", 2)]) (g := (gName 2)) (by rfl) sc_checked_width.nd (piS K rfl (pv 0)) ((by show BlkOk ["rows", "width", "row"] (defScope s_checked_width) _ _; exact blkOk_by (by decide +kernel))) (fun _ _ _ _ _ => (pg_name (i := 2) sc_checked_width.nd rfl (by first | exact .inl rfl | exact .inr rfl))) (fun _ _ _ _ _ => pts_nil) (fun _ _ _ _ _ => (pe_cmpR op_eq (pe_callB (lenS K rfl) (by rfl) T.z_len (by decide +kernel) (pa_cons (pv 2) pa_nil)) (pv 1) (nomark _)))) pa_nil))))
      (pss_one (ps_raise rfl (takes_of rfl rfl rfl rfl) (pmk_own PySem.F.excBase_ValueError T.xX_Malformed T.gX_Malformed T.kX_Malformed (raises_own T.bX_Malformed T.tX_Malformed) (by exact rfl))))
      pss_nil)
      (pss_one (ps_ret (pv 1)))))), ?_⟩
    refine ⟨_, rfl, rfl, _, rfl, ?_⟩
    rw [decide_eq_true rfl]
    refine iteT ?_
    refine ⟨_, rfl, a, ws, rfl, .inr hs, _, _, rfl, rfl, _, rfl, ?_⟩
    rw [decide_eq_true (by omega)]
    refine iteT ?_
    refine ⟨_, rfl, a, ws, _, _, rfl, rfl, hs, atI_nat (j := 0) ev0, b0, _, rfl, .inr hb0, ?_⟩
    rw [List.length_map]
    refine ⟨_, rfl, _, rfl, true, rfl, iteF ⟨_, rfl, _, _, rfl, rfl, _, rfl, ?_⟩⟩
    rw [decide_eq_false (by omega)]
    refine iteF ?_
    refine ⟨_, rfl, a, ws, rfl, .inr hs, fun J2 G2 W2 hG2 D hD => ?_⟩
    refine lc_all W2 hD (by omega) (fun H4 s4 => hG2 H4 fun b _ o => s4 b o) (fun i v _ => v = .bl (decide ((m.getD i []).length = r0.length))) (fun _ _ _ _ _ _ _ h => h) ?_ gm_name ?_
    · rintro i x H4 H4' acc Ko hi s4 eD ⟨rfl, ex⟩ k
      obtain ⟨r, er, b, rfl, hb⟩ := Paired.getR hp ex
      refine ⟨rfl, ?_⟩
      refine ⟨_, rfl, b, _, rfl, .inr (Same.seqT s4 hb), _, rfl, rfl, ?_⟩
      refine k _ _ (Same.refl _) ?_
      rw [List.getD_eq_getElem?_getD, er, List.length_map]
      show V.bl (decide (V.int (r.length : Int) = V.int (r0.length : Int))) = V.bl (decide (r.length = r0.length))
      refine congrArg V.bl ?_
      by_cases h : r.length = r0.length
      · rw [decide_eq_true h, decide_eq_true (by rw [h])]
      · rw [decide_eq_false h, decide_eq_false (fun z => h (by have := V.int.inj z; omega))]
    · intro H4 l s4 eD hl2
      refine ⟨D, (List.range ws.length).map fun i => decide ((m.getD i []).length = r0.length), rfl, .inl (.inl (by rw [← bools_list hl2]; exact eD)), false, ?_, ?_⟩
      · have hi0 : i0 < m.length := (List.getElem?_eq_some_iff.mp er1).1
        rw [not_all (i := i0) (by omega) (by rw [List.getD_eq_getElem?_getD, er1]; exact decide_eq_false hne)]
      · refine iteT ?_
        exact q _ s4
/-! ### the constructor without a width; that raises -/
def sp_Grid_init_N (K : PySem.W.Frag) (C : Addr) : Sp := fun vs H Q _ => ∃ (p dx : Addr) (v : V) (m : List (List Int)) (w : Nat), vs = [.ref p, v, .non] ∧ H p = some (.ins C dx []) ∧ IRows K H v m ∧ 0 < m.length ∧ m.length ≤ 1000 ∧ w ≤ 1000 ∧ (∀ r ∈ m, r.length = w) ∧
  ∀ t H', Off p H H' → H' p = some (.ins C dx (flds t w)) → TRows K H' t m → Q .non H'
theorem ok_Grid_init_N (T : Top K mg) (hN : base.NoSeer) (hT : P.given.tree = none) : FnOk P w K mg base CX0 3 T.a_Grid_init T.d_Grid_init ["self", "rows", "width"] (sp_Grid_init_N K T.C_Grid) := by
  refine T.F_Grid_init.ok sc_Grid_init (fun vs H Q E h => ?_) (fun cdv A outer s H vs Q E hr h => ?_)
  · obtain ⟨p, dx, v, m, w, rfl, _⟩ := h
    rfl
  · obtain ⟨p, dx, v, m, w, rfl, hp, hm, h0, hl, hw, hrw, q⟩ := h
    refine ⟨_, PSs.nox (pss_cons (ps_fld (pv 0) (pe_c (cal_checked_rows T hN hT) hr (by decide) (by rfl) (pa_cons (pv 1) pa_nil)) rfl)
      (pss_one (ps_fld (pv 0) (pe_c (cal_checked_width_N T hN hT) hr (by decide) (by rfl) (pa_cons (fldK K rfl (pv 0) rfl) (pa_cons (pv 2) pa_nil))) rfl))), ?_⟩
    refine ⟨_, rfl, v, m, rfl, hm, hl, fun r hr => by rw [hrw r hr]; exact hw, fun t H1 s1 ht => ?_⟩
    have hp1 := s1 _ _ hp
    refine ⟨_, rfl, p, T.C_Grid, dx, [], rfl, hp1, T.cl_Grid, T.n_rows, by show 0 < 1000; decide, ?_⟩
    refine ⟨_, rfl, p, T.C_Grid, dx, _, t, rfl, upd_same, T.cl_Grid, T.n_rows, ?_, ?_⟩
    · rw [lookup_putF, if_pos rfl]
    have ht2 : TRows K (upd H1 p (.ins T.C_Grid dx (putF "rows" t []))) t m := trows_off hp1 Off.upd ht
    refine ⟨_, rfl, t, m, w, rfl, ht2, h0, hl, hrw, fun H2 s2 => ?_⟩
    have hp2 := s2 _ _ upd_same
    refine ⟨_, rfl, p, T.C_Grid, dx, _, rfl, hp2, T.cl_Grid, T.n_width, by show 1 < 1000; decide, ?_⟩
    refine q t _ (fun b o n e => ?_) upd_same (trows_off hp2 Off.upd (ht2.same s2))
    rw [upd_ne n]
    exact s2 _ _ (Off.upd _ _ n (s1 _ _ e))

end
end K06
namespace K06
open PySem PySem.Spec PyProof.Rows L2 Gm
open C8 (Cal Met Mak pe_c pe_mt pe_mt0 pe_mk)
section
variable {P : Program} {w : World} {K : PySem.W.Frag} {mg : Str → Option Value} {base : Heap}
/-- the state of the draws: two numbers, the first not negative -/
def StAt (H : Hp) (p : Addr) : Prop := ∃ s t : Int, H p = some (.lst [.int s, .int t]) ∧ 0 ≤ s
def sp_law_state (K : PySem.W.Frag) : Sp := fun vs H Q _ => ∃ (a : Addr) (ns : List Int), vs = [.ref a] ∧ SqL K H a (ns.map V.int) ∧ ns.length ≤ 63 ∧ ∀ p H', Same H H' → H p = none → StAt H' p → Q (.ref p) H'
theorem ok_law_state (T : Top K mg) (hN : base.NoSeer) (hT : P.given.tree = none) : FnOk P w K mg base CX0 1 T.a_law_state T.d_law_state ["script"] (sp_law_state K) := by
  refine T.F_law_state.ok sc_law_state (fun vs H Q E h => ?_) (fun cdv A outer s H vs Q E hr h => ?_)
  · obtain ⟨a, ns, rfl, _⟩ := h
    rfl
  · obtain ⟨a, ns, rfl, hs, hl, q⟩ := h
    refine ⟨_, (pss_cons (ps_set (i := 1) sc_law_state.nd rfl (by first | exact .inl rfl | exact .inr rfl) pe_int)
      (pss_cons (ps_set (i := 2) sc_law_state.nd rfl (by first | exact .inl rfl | exact .inr rfl) pe_int)
      (pss_cons (ps_for PassesOwn.never rfl (piS K rfl (pe_slice (slLK K rfl) (pv 0) po_none (po_some pe_int))) (pg_name (i := 3) sc_law_state.nd rfl (by first | exact .inl rfl | exact .inr rfl))
      (pss_cons (ps_set (i := 1) sc_law_state.nd rfl (by first | exact .inl rfl | exact .inr rfl) (pe_op op_add (pe_op op_mul (pv 1) pe_int) (pe_callB (call_abs) (by rfl) T.z_abs (by decide +kernel) (pa_cons (pv 3) pa_nil))))
      (pss_one (ps_set (i := 2) sc_law_state.nd rfl (by first | exact .inl rfl | exact .inr rfl) (pe_op op_mod (pe_callTy (call_int1) (by rfl) T.z_int (by decide +kernel) (pa_cons (pe_op op_add (pe_op op_mul (pv 2) pe_int) (pv 3)) pa_nil)) pe_int)))))
      (pss_one (ps_ret (pe_lst (pa_cons (pv 1) (pa_cons (pv 2) pa_nil)))))))), ?_⟩
    refine ⟨_, rfl, 63, rfl, a, _, rfl, hs, fun p np => ?_⟩
    have s1 : Same H (upd H p (.lst (cutV (ns.map V.int) none (some 63)))) := same_upd np
    have ec : cutV (ns.map V.int) none (some 63) = ns.map V.int := by
      rw [show (63 : Int) = ((63 : Nat) : Int) from rfl, cut_take, List.take_of_length_le (by rw [List.length_map]; exact hl)]
    rw [ec] at s1 ⊢
    refine ⟨p, _, rfl, .inl (.inl (.inl upd_same)), fun J G W hG => ?_⟩
    generalize hH1 : upd H p (.lst (ns.map V.int)) = H1 at s1 hG
    refine for_it W (fun i σ H2 => H2 = H1 ∧ ∃ s t y, σ = [some (.ref a), some (.int s), some (.int t), y] ∧ 0 ≤ s) ⟨rfl, 0, 1, none, rfl, Int.le_refl _⟩ (fun i σ H2 _ ⟨e, _⟩ => hG _ fun b _ o h => by rw [e]; exact h) ?_ ?_
    · rintro i x σ H2 H2' hi ⟨rfl, s, t, y, rfl, h0⟩ ⟨rfl, ex⟩
      obtain ⟨z, ez, rfl⟩ := ints_get ex
      refine ⟨_, rfl, _, _, rfl, rfl, .inr ⟨by decide, by decide⟩, _, rfl, z, rfl, _, _, rfl, rfl, ?_⟩
      refine ⟨_, rfl, _, _, rfl, rfl, .inr ⟨by decide, by decide⟩, _, rfl, _, _, rfl, rfl, .inl ⟨_, rfl, _, _, rfl, rfl, by show (0 : Int) < 2147483647; decide, ?_⟩⟩
      refine ⟨rfl, _, _, _, rfl, ?_⟩
      split <;> omega
    · rintro σ H2 ⟨rfl, s, t, y, rfl, h0⟩
      refine ⟨_, rfl, _, rfl, by show 2 ≤ sizeLine; decide, fun p2 np2 => ?_⟩
      exact q p2 _ (s1.trans (same_upd np2)) (Same.free s1 np2) ⟨s, t, upd_same, h0⟩
theorem cal_law_state (T : Top K mg) (hN : base.NoSeer) (hT : P.given.tree = none) : Cal P w K mg base 1 "_law_state" (sp_law_state K) [] := ⟨⟨_, _, _, [], ok_law_state T hN hT, T.g_law_state, T.F_law_state.kp, T.b_law_state, .nil⟩⟩
def sp_law_take : Sp := fun vs H Q _ => ∃ (p : Addr) (m : Nat), vs = [.ref p, .int m] ∧ StAt H p ∧ 0 < m ∧ m < 1000000 ∧ ∀ (r : Nat) H', r < m → Off p H H' → StAt H' p → Q (.int r) H'
theorem ok_law_take (T : Top K mg) (hN : base.NoSeer) (hT : P.given.tree = none) : FnOk P w K mg base CX0 1 T.a_law_take T.d_law_take ["state", "m"] sp_law_take := by
  refine T.F_law_take.ok sc_law_take (fun vs H Q E h => ?_) (fun cdv A outer s H vs Q E hr h => ?_)
  · obtain ⟨p, m, rfl, _⟩ := h
    rfl
  · obtain ⟨p, m, rfl, ⟨s0, t0, hp, h0⟩, hm0, hm1, q⟩ := h
    have hsq : SqL K H p [V.int s0, V.int t0] := .inl (.inl hp)
    refine ⟨_, (pss_cons (ps_if (pt_cmpR op_gt (pe_ix (ixL K rfl) (pv 0) pe_int (fun _ _ => rfl)) pe_int (nomark _))
      (pss_cons (ps_set (i := 2) sc_law_take.nd rfl (by first | exact .inl rfl | exact .inr rfl) (pe_op op_mod (pe_callTy (call_int1) (by rfl) T.z_int (by decide +kernel) (pa_cons (pe_ix (ixL K rfl) (pv 0) pe_int (fun _ _ => rfl)) pa_nil)) (pv 1)))
      (pss_cons (ps_asg (pe_op op_fdiv (pe_ix (ixL K rfl) (pv 0) pe_int (fun _ _ => rfl)) (pv 1)) (pg_sub (pv 0) pe_int set_list))
      (pss_one (ps_ret (pv 2)))))
      pss_nil)
      (pss_cons (ps_asg (pe_op op_mod (pe_callTy (call_int1) (by rfl) T.z_int (by decide +kernel) (pa_cons (pe_op op_add (pe_op op_mul (pe_ix (ixL K rfl) (pv 0) pe_int (fun _ _ => rfl)) pe_int) pe_int) pa_nil)) pe_int) (pg_sub (pv 0) pe_int set_list))
      (pss_one (ps_ret (pe_op op_mod (pe_callTy (call_int1) (by rfl) T.z_int (by decide +kernel) (pa_cons (pe_op op_fdiv (pe_ix (ixL K rfl) (pv 0) pe_int (fun _ _ => rfl)) pe_int) pa_nil)) (pv 1)))))), ?_⟩
    refine ⟨_, rfl, p, _, _, _, rfl, rfl, hsq, atI_nat (j := 0) rfl, _, _, rfl, rfl, _, rfl, ?_⟩
    have fin : ∀ x : Int, ∃ r : Nat, (r : Int) = x % (m : Int) ∧ r < m := fun x => by
      have h1 := Int.emod_nonneg x (b := (m : Int)) (by omega)
      have h2 := Int.emod_lt_of_pos x (b := (m : Int)) (by omega)
      exact ⟨(x % (m : Int)).toNat, by omega, by omega⟩
    by_cases hs : 0 < s0
    · rw [decide_eq_true hs]
      refine iteT ?_
      refine ⟨_, rfl, p, _, _, _, rfl, rfl, hsq, atI_nat (j := 0) rfl, .inl ⟨_, rfl, _, rfl, _, _, rfl, rfl, by omega, ?_⟩⟩
      refine ⟨_, rfl, p, _, _, _, rfl, rfl, hsq, atI_nat (j := 0) rfl, _, rfl, _, _, rfl, rfl, ⟨by omega, by omega⟩, _, rfl, p, _, _, 0, rfl, rfl, hp, ixN_nat (n := 2) (k := 0) (by decide), ?_⟩
      obtain ⟨r, er, hr2⟩ := fin s0
      refine ⟨_, rfl, ?_⟩
      show Q (.int (s0 % (m : Int))) _
      rw [← er]
      exact q r _ hr2 Off.upd ⟨_, t0, upd_same, Int.ediv_nonneg h0 (by omega)⟩
    · rw [decide_eq_false hs]
      refine iteF ?_
      refine ⟨_, rfl, p, _, _, _, rfl, rfl, hsq, atI_nat (j := 1) rfl, _, _, rfl, rfl, .inr ⟨by decide, by decide⟩, _, _, rfl, rfl, .inl ⟨_, rfl, _, _, rfl, rfl, by show (0 : Int) < 2147483647; decide, ?_⟩⟩
      refine ⟨_, rfl, p, _, _, 1, rfl, rfl, hp, ixN_nat (n := 2) (k := 1) (by decide), ?_⟩
      refine ⟨_, rfl, p, _, _, _, rfl, rfl, .inl (.inl upd_same), atI_nat (j := 1) rfl, _, _, rfl, rfl, ⟨by decide, by decide⟩, .inl ⟨_, rfl, _, rfl, _, _, rfl, rfl, by omega, ?_⟩⟩
      obtain ⟨r, er, hr2⟩ := fin ((t0 * 48271 + 11) % 2147483647 / 7)
      show Q (.int ((t0 * 48271 + 11) % 2147483647 / 7 % (m : Int))) _
      rw [← er]
      exact q r _ hr2 Off.upd ⟨s0, _, upd_same, h0⟩
theorem cal_law_take (T : Top K mg) (hN : base.NoSeer) (hT : P.given.tree = none) : Cal P w K mg base 1 "_law_take" sp_law_take [] := ⟨⟨_, _, _, [], ok_law_take T hN hT, T.g_law_take, T.F_law_take.kp, T.b_law_take, .nil⟩⟩

/-! ### _law_rows -/
def sp_law_rows (K : PySem.W.Frag) : Sp := fun vs H Q _ => ∃ (p : Addr) (h wd M : Nat), vs = [.ref p, .int h, .int wd, .int M] ∧ StAt H p ∧ h ≤ 100 ∧ wd ≤ 100 ∧ M ≤ 1000 ∧
  ∀ v m H', Off p H H' → StAt H' p → TRows K H' v m → m.length = h → (∀ r ∈ m, r.length = wd) → (∀ r ∈ m, ∀ x ∈ r, x.natAbs ≤ 2 * M) → Q v H'
theorem ok_law_rows (T : Top K mg) (hN : base.NoSeer) (hT : P.given.tree = none) : FnOk P w K mg base CX0 2 T.a_law_rows T.d_law_rows ["state", "height", "width", "most"] (sp_law_rows K) := by
  refine T.F_law_rows.ok sc_law_rows (fun vs H Q E h => ?_) (fun cdv A outer s H vs Q E hr h => ?_)
  · obtain ⟨p, h, wd, M, rfl, _⟩ := h
    rfl
  · obtain ⟨p, h, wd, M, rfl, st0, hh, hwd, hM, q⟩ := h
    refine ⟨_, (pss_cons (ps_set (i := 4) sc_law_rows.nd rfl (by first | exact .inl rfl | exact .inr rfl) (pe_lst pa_nil))
      (pss_cons (ps_for PassesOwn.never rfl (pi_range1 (by rfl) T.z_range (pa_cons (pv 1) pa_nil)) (pg_name (i := 5) sc_law_rows.nd rfl (by first | exact .inl rfl | exact .inr rfl))
      (pss_one (ps_expr (pe_bm PySem.F.plainAttrs_list PySem.F.slot_list_append PySem.F.type_list_append mt_append (pv 4) (pa_cons (pe_callTy (tupK K rfl) (by rfl) T.z_tuple (by decide +kernel) (pa_cons (pe_lc (own := [("k", 6)]) (g := (gName 6)) (by rfl) sc_law_rows.nd (pi_range1 (by rfl) T.z_range (pa_cons (pv 2) pa_nil)) ((by show BlkOk ["state", "height", "width", "most", "rows", "i", "k"] (defScope s_law_rows) _ _; exact blkOk_by (by decide +kernel))) (fun _ _ _ _ _ => (pg_name (i := 6) sc_law_rows.nd rfl (by first | exact .inl rfl | exact .inr rfl))) (fun _ _ _ _ _ => pts_nil) (fun _ _ _ _ _ => (pe_op op_sub (pe_c (cal_law_take T hN hT) hr (by decide) (by rfl) (pa_cons (pv 0) (pa_cons (pe_op op_add (pe_op op_mul pe_int (pv 3)) pe_int) pa_nil))) (pv 3)))) pa_nil)) pa_nil)))))
      (C8.pss_cut (ps_if (PW.pt (pw_and (pt_cmpR op_gt (pv 1) pe_int (nomark _)) (pw_and1 (pt_cmpR op_eq (pe_c (cal_law_take T hN hT) hr (by decide) (by rfl) (pa_cons (pv 0) (pa_cons pe_int pa_nil))) pe_int (nomark _)))))
      (pss_one (ps_asg (pe_callTy (tupK K rfl) (by rfl) T.z_tuple (by decide +kernel) (pa_cons (pe_lc (own := [("k", 6)]) (g := (gName 6)) (by rfl) sc_law_rows.nd (pi_range1 (by rfl) T.z_range (pa_cons (pv 2) pa_nil)) ((by show BlkOk ["state", "height", "width", "most", "rows", "i", "k"] (defScope s_law_rows) _ _; exact blkOk_by (by decide +kernel))) (fun _ _ _ _ _ => (pg_name (i := 6) sc_law_rows.nd rfl (by first | exact .inl rfl | exact .inr rfl))) (fun _ _ _ _ _ => pts_nil) (fun _ _ _ _ _ => (pe_op op_mul (pe_ix (ixT K rfl) (pe_ix (ixL K rfl) (pv 4) pe_int (fun _ _ => rfl)) (pv 6) (fun _ _ => rfl)) pe_int))) pa_nil)) (pg_sub (pv 4) (pe_op op_sub (pv 1) pe_int) set_list)))
      pss_nil)
      (pss_one (ps_ret (pe_callTy (tupK K rfl) (by rfl) T.z_tuple (by decide +kernel) (pa_cons (pv 4) pa_nil))))))), ?_⟩
    -- rows = []
    refine ⟨by show 0 ≤ sizeLine; decide, fun R nR => ?_⟩
    have hpR : p ≠ R := by
      obtain ⟨s0, t0, e, _⟩ := st0
      exact ne_of_none e nR
    -- for i in range(height)
    refine ⟨_, rfl, (h : Int), rfl, by omega, by omega, ?_⟩
    let Inv : Nat → Nat → Hp → Prop := fun bd i H2 => Off p H H2 ∧ StAt H2 p ∧ ∃ (l : List V) (m : List (List Int)), H2 R = some (.lst l) ∧ m.length = i ∧ Paired (TRow K H2) l m ∧ (∀ r ∈ m, r.length = wd) ∧ ∀ r ∈ m, ∀ x ∈ r, x.natAbs ≤ bd
    refine for_it walk_range (fun i σ H2 => ∃ y5 y6, σ = [some (.ref p), some (.int h), some (.int wd), some (.int M), some (.ref R), y5, y6] ∧ Inv M i H2) ⟨none, none, rfl, Same.off (same_upd nR), ?_, [], [], upd_same, rfl, .nil, fun r hr => by (cases hr), fun r hr => by (cases hr)⟩ (fun _ _ _ _ _ => trivial) ?_ ?_
    · obtain ⟨s0, t0, e, e2⟩ := st0
      exact ⟨s0, t0, by rw [upd_ne hpR]; exact e, e2⟩
    · rintro i x σ H2 H2' hi ⟨y5, y6, rfl, o2, st2, l, m, eR, lm, hp, hw, hb⟩ ⟨rfl, rfl⟩
      refine ⟨_, rfl, .inl ⟨rfl, _, .inl (.inl eR)⟩, ?_⟩
      refine ⟨_, rfl, (wd : Int), rfl, by omega, by omega, fun D hD => ?_⟩
      have hpD : p ≠ D := by
        obtain ⟨s0, t0, e, _⟩ := st2
        exact ne_of_none e hD
      have hRD : R ≠ D := ne_of_none eR hD
      refine lc_val walk_range (by omega) (fun H4 => Off p H2' H4 ∧ StAt H4 p) ⟨Same.off (same_upd hD), ?_⟩ (fun _ _ => trivial) ?_ (fun _ v => ∃ z : Int, v = V.int z ∧ z.natAbs ≤ M) ?_ gm_name ?_
      · obtain ⟨s0, t0, e, e2⟩ := st2
        exact ⟨s0, t0, by rw [upd_ne hpD]; exact e, e2⟩
      · rintro H4 acc acc' ⟨o4, s0, t0, e, e2⟩ _
        refine ⟨fun b u n h => ?_, s0, t0, by rw [upd_ne hpD]; exact e, e2⟩
        rw [upd_ne (ne_of_none h hD)]
        exact o4 _ _ n h
      · rintro k x H4 H4' acc Ko hk ⟨o4, st4⟩ eD ⟨rfl, rfl⟩ kk
        refine ⟨rfl, ?_⟩
        refine ⟨_, rfl, _, rfl, 2, (M : Int), rfl, rfl, .inl ⟨by decide, by decide⟩, _, _, rfl, rfl, p, 2 * M + 1, ?_, st4, by omega, by omega, fun r H5 hr5 o5 st5 => ?_⟩
        · show [V.ref p, V.int (2 * (M : Int) + 1)] ++ [] = _
          rw [show (2 * (M : Int) + 1) = ((2 * M + 1 : Nat) : Int) by omega]
          rfl
        · refine ⟨_, rfl, _, _, rfl, rfl, ?_⟩
          have eD5 : H5 D = some (.lst acc) := o5 _ _ (Ne.symm hpD) eD
          exact kk _ _ ⟨Off.trans o4 o5, st5⟩ eD5 ⟨(r : Int) - (M : Int), rfl, by omega⟩
      · rintro H4 l2 ⟨o4, st4⟩ eD hpl
        obtain ⟨zs, rfl, lz, bz⟩ := vals_small hpl
        rw [List.length_range] at lz
        refine ⟨D, _, rfl, .inl ⟨.inl (.inl eD), fun t nt => ?_⟩⟩
        have eR4 : (upd H4 t (.tup (zs.map V.int))) R = some (.lst l) := same_upd nt _ _ (o4 _ _ (Ne.symm hpR) eR)
        refine ⟨R, l, _, rfl, rfl, eR4, small1000 ?_, ?_⟩
        · have := Paired.length hp
          omega
        have htp : t ≠ p := by
          obtain ⟨s0, t0, e, _⟩ := st4
          exact (ne_of_none e nt).symm
        have htR : t ≠ R := by
          rintro rfl
          rw [o4 _ _ (Ne.symm hpR) eR] at nt
          cases nt
        refine ⟨_, _, rfl, fun b u n hb' => ?_, ?_, l ++ [.ref t], m ++ [zs], upd_same, by rw [List.length_append, lm]; rfl, ?_, ?_, ?_⟩
        · have h2 := o2 _ _ n hb'
          rw [upd_ne (ne_of_none hb' nR)]
          exact same_upd nt _ _ (o4 _ _ n h2)
        · obtain ⟨s0, t0, e, e2⟩ := st4
          exact ⟨s0, t0, by rw [upd_ne hpR, upd_ne (Ne.symm htp)]; exact e, e2⟩
        · have offR : ∀ {v ns}, TRow K H2' v ns → TRow K (upd (upd H4 t (.tup (zs.map V.int))) R (.lst (l ++ [.ref t]))) v ns := fun {v ns} r => by
            obtain ⟨s0, t0, e, _⟩ := id st2
            exact TRow.off eR4 Off.upd (TRow.same (same_upd nt) (TRow.off e o4 r))
          refine Paired.snoc (L2.Paired.mapP hp fun _ _ => offR) ⟨t, rfl, .inl (.inl ?_)⟩
          rw [upd_ne htR, upd_same]
        · intro r hr'
          rcases List.mem_append.mp hr' with h1 | h1
          · exact hw r h1
          · rw [List.mem_singleton] at h1
            subst h1
            omega
        · intro r hr' x hx
          rcases List.mem_append.mp hr' with h1 | h1
          · exact hb r h1 x hx
          · rw [List.mem_singleton] at h1
            subst h1
            exact bz x hx
    · rintro σ H2 ⟨y5, y6, rfl, o2, st2, l, m, eR, lm, hp, hw, hb⟩
      rw [show ((h : Int)).toNat = h from Int.toNat_natCast h] at lm
      -- if height > 1 and _law_take(state, 5) == 0
      refine ⟨fun σ H3 => ∃ y5 y6, σ = [some (.ref p), some (.int h), some (.int wd), some (.int M), some (.ref R), y5, y6] ∧ Inv (2 * M) h H3, ?_, ?_⟩
      · refine ⟨_, rfl, _, _, rfl, rfl, _, rfl, ?_⟩
        by_cases h1 : (1 : Int) < (h : Int)
        · rw [decide_eq_true h1]
          refine iteT ?_
          refine ⟨_, rfl, p, 5, rfl, st2, by decide, by decide, fun r H3 hr3 o3 st3 => ⟨rfl, _, rfl, ?_⟩⟩
          have eR3 : H3 R = some (.lst l) := o3 _ _ (Ne.symm hpR) eR
          have hp3 : Paired (TRow K H3) l m := L2.Paired.mapP hp fun _ _ r => by
            obtain ⟨s0, t0, e, _⟩ := id st2
            exact TRow.off e o3 r
          have oo := Off.trans o2 o3
          by_cases hr0 : V.int (r : Int) = V.int 0
          · rw [decide_eq_true hr0]
            refine iteT ?_
            -- rows[height - 1] = tuple([rows[0][k] * 2 for k in range(width)])
            refine ⟨_, rfl, (wd : Int), rfl, by omega, by omega, fun D hD => ?_⟩
            refine lc_val walk_range (by omega) (fun H4 => Same H3 H4) (same_upd hD) (fun _ _ => trivial) (fun H4 acc acc' a _ b u hb' => by rw [upd_ne (ne_of_none hb' hD)]; exact a _ _ hb') (fun _ v => ∃ z : Int, v = V.int z ∧ z.natAbs ≤ 2 * M) ?_ gm_name ?_
            · rintro k x H4 H4' acc Ko hk a4 eD ⟨rfl, rfl⟩ kk
              obtain ⟨r0, er0⟩ : ∃ r0, m[0]? = some r0 := ⟨m[0]'(by omega), List.getElem?_eq_getElem (by omega)⟩
              obtain ⟨v0, ev0, b0, rfl, hb0⟩ := Paired.getR (Paired.swap hp3) er0
              have hr0m := List.mem_of_getElem? er0
              have hrl := hw r0 hr0m
              have hk' : k < r0.length := by omega
              refine ⟨rfl, ?_⟩
              refine ⟨_, rfl, R, l, _, _, rfl, rfl, .inl (.inl (a4 _ _ eR3)), atI_nat (j := 0) ev0, _, rfl, b0, _, _, _, rfl, rfl, Same.seqT a4 hb0, at_of (j := k) (by omega) (ints_at (List.getElem?_eq_getElem hk')), _, _, rfl, rfl, .inr ⟨by decide, by decide⟩, ?_⟩
              refine kk _ _ a4 eD ⟨_, rfl, ?_⟩
              have := hb r0 hr0m _ (List.getElem_mem hk')
              omega
            · rintro H4 l2 a4 eD hpl
              obtain ⟨zs, rfl, lz, bz⟩ := vals_small hpl
              rw [List.length_range] at lz
              refine ⟨D, _, rfl, .inl ⟨.inl (.inl eD), fun t nt => ?_⟩⟩
              have eR4 : (upd H4 t (.tup (zs.map V.int))) R = some (.lst l) := same_upd nt _ _ (a4 _ _ eR3)
              have hll := Paired.length hp
              refine ⟨_, rfl, _, rfl, _, _, rfl, rfl, R, l, _, h - 1, rfl, rfl, eR4, ?_, ?_⟩
              · rw [show (h : Int) - 1 = ((h - 1 : Nat) : Int) by omega]
                exact ixN_nat (by omega)
              have htp : t ≠ p := by
                obtain ⟨s0, t0, e, _⟩ := st3
                rintro rfl
                rw [a4 _ _ e] at nt
                cases nt
              have htR : t ≠ R := by
                rintro rfl
                rw [a4 _ _ eR3] at nt
                cases nt
              refine ⟨_, _, rfl, fun b u n hb' => ?_, ?_, l.set (h - 1) (.ref t), m.set (h - 1) zs, upd_same, by rw [List.length_set, lm], ?_, ?_, ?_⟩
              · rw [upd_ne (ne_of_none hb' nR)]
                exact same_upd nt _ _ (a4 _ _ (oo _ _ n hb'))
              · obtain ⟨s0, t0, e, e2⟩ := st3
                exact ⟨s0, t0, by rw [upd_ne hpR]; exact same_upd nt _ _ (a4 _ _ e), e2⟩
              · refine paired_set ⟨t, rfl, .inl (.inl ?_)⟩ _ (L2.Paired.mapP hp3 fun _ _ r => TRow.off eR4 Off.upd (TRow.same (same_upd nt) (TRow.same a4 r)))
                rw [upd_ne htR, upd_same]
              · intro r hr'
                rcases List.mem_or_eq_of_mem_set hr' with h1 | h1
                · exact hw r h1
                · subst h1
                  omega
              · intro r hr' x hx
                rcases List.mem_or_eq_of_mem_set hr' with h1 | h1
                · have := hb r h1 x hx
                  omega
                · subst h1
                  exact bz x hx
          · rw [decide_eq_false hr0]
            refine iteF ?_
            exact ⟨_, _, rfl, oo, st3, l, m, eR3, lm, hp3, hw, fun r hr x hx => by have := hb r hr x hx; omega⟩
        · rw [decide_eq_false h1]
          refine iteF ?_
          show (if false = true then _ else _)
          refine iteF ?_
          exact ⟨_, _, rfl, o2, st2, l, m, eR, lm, hp, hw, fun r hr x hx => by have := hb r hr x hx; omega⟩
      · rintro σ3 H3 ⟨y5', y6', rfl, o3, st3, l3, m3, eR3, lm3, hp3, hw3, hb3⟩
        -- return tuple(rows)
        refine ⟨_, rfl, R, l3, rfl, .inl ⟨.inl (.inl eR3), fun t nt => ?_⟩⟩
        refine q _ m3 _ (Off.trans o3 (Same.off (same_upd nt))) ?_ ⟨t, l3, rfl, .inl (.inl upd_same), L2.Paired.mapP hp3 fun _ _ => TRow.same (same_upd nt)⟩ lm3 hw3 hb3
        obtain ⟨s0, t0, e, e2⟩ := st3
        exact ⟨s0, t0, same_upd nt _ _ e, e2⟩
theorem cal_law_rows (T : Top K mg) (hN : base.NoSeer) (hT : P.given.tree = none) : Cal P w K mg base 2 "_law_rows" (sp_law_rows K) [] := ⟨⟨_, _, _, [], ok_law_rows T hN hT, T.g_law_rows, T.F_law_rows.kp, T.b_law_rows, .nil⟩⟩

/-! ### _law_product -/
def sp_law_product (K : PySem.W.Frag) : Sp := fun vs H Q _ => ∃ (va vb : V) (a b : List (List Int)) (wd B1 B2 : Nat), vs = [va, vb, .int wd] ∧ TRows K H va a ∧ TRows K H vb b ∧ a.length ≤ 1000 ∧ b.length ≤ 1000 ∧ wd ≤ 1000 ∧ (∀ r ∈ a, r.length = b.length) ∧ (∀ r ∈ b, r.length = wd) ∧
  (∀ r ∈ a, Bits B1 r) ∧ (∀ r ∈ b, Bits B2 r) ∧ B1 + B2 ≤ 134217728 ∧ ∀ v' H', Same H H' → TRows K H' v' (mulM a b wd) → Q v' H'
theorem ok_law_product (T : Top K mg) (hN : base.NoSeer) (hT : P.given.tree = none) : FnOk P w K mg base CX0 1 T.a_law_product T.d_law_product ["a", "b", "width"] (sp_law_product K) := by
  refine T.F_law_product.ok sc_law_product (fun vs H Q E h => ?_) (fun cdv A outer s H vs Q E hr h => ?_)
  · obtain ⟨va, vb, a, b, wd, B1, B2, rfl, _⟩ := h
    rfl
  · obtain ⟨va, vb, a, b, wd, B1, B2, rfl, ⟨pa, wa, rfl, ha, hpa⟩, ⟨pb, wb, rfl, hb, hpb⟩, la, lb, hwd, ra, rb, ba, bb, hB, q⟩ := h
    have lwa := Paired.length hpa
    have lwb := Paired.length hpb
    refine ⟨_, (pss_cons (ps_set (i := 3) sc_law_product.nd rfl (by first | exact .inl rfl | exact .inr rfl) (pe_lst pa_nil))
      (pss_cons (ps_for PassesOwn.never rfl (piT K rfl (pv 0)) (pg_name (i := 4) sc_law_product.nd rfl (by first | exact .inl rfl | exact .inr rfl))
      (pss_cons (ps_set (i := 5) sc_law_product.nd rfl (by first | exact .inl rfl | exact .inr rfl) (pe_lst pa_nil))
      (pss_cons (ps_for PassesOwn.never rfl (pi_range1 (by rfl) T.z_range (pa_cons (pv 2) pa_nil)) (pg_name (i := 6) sc_law_product.nd rfl (by first | exact .inl rfl | exact .inr rfl))
      (pss_cons (ps_set (i := 7) sc_law_product.nd rfl (by first | exact .inl rfl | exact .inr rfl) pe_int)
      (pss_cons (ps_for PassesOwn.never rfl (pi_range1 (by rfl) T.z_range (pa_cons (pe_callB (lenS K rfl) (by rfl) T.z_len (by decide +kernel) (pa_cons (pv 1) pa_nil)) pa_nil)) (pg_name (i := 8) sc_law_product.nd rfl (by first | exact .inl rfl | exact .inr rfl))
      (pss_one (ps_set (i := 7) sc_law_product.nd rfl (by first | exact .inl rfl | exact .inr rfl) (pe_op op_add (pv 7) (pe_op op_mulX (pe_ix (ixT K rfl) (pv 4) (pv 8) (fun _ _ => rfl)) (pe_ix (ixT K rfl) (pe_ix (ixT K rfl) (pv 1) (pv 8) (fun _ _ => rfl)) (pv 6) (fun _ _ => rfl)))))))
      (pss_one (ps_expr (pe_bm PySem.F.plainAttrs_list PySem.F.slot_list_append PySem.F.type_list_append mt_append (pv 5) (pa_cons (pv 7) pa_nil)))))))
      (pss_one (ps_expr (pe_bm PySem.F.plainAttrs_list PySem.F.slot_list_append PySem.F.type_list_append mt_append (pv 3) (pa_cons (pe_callTy (tupK K rfl) (by rfl) T.z_tuple (by decide +kernel) (pa_cons (pv 5) pa_nil)) pa_nil)))))))
      (pss_one (ps_ret (pe_callTy (tupK K rfl) (by rfl) T.z_tuple (by decide +kernel) (pa_cons (pv 3) pa_nil)))))), ?_⟩
    -- out = []
    refine ⟨by show 0 ≤ sizeLine; decide, fun R nR => ?_⟩
    have s0 : Same H (upd H R (.lst [])) := same_upd nR
    refine ⟨_, rfl, pa, rfl, ⟨wa, Same.seqT s0 ha⟩, ?_⟩
    generalize hH0 : upd H R (.lst []) = H0 at s0
    have eR0 : H0 R = some (.lst []) := by rw [← hH0, upd_same]
    refine for_it (walk_tup (xs := wa)) (fun i σ H2 => ∃ y4 y5 y6 y7 y8, σ = [some (.ref pa), some (.ref pb), some (.int wd), some (.ref R), y4, y5, y6, y7, y8] ∧ Same H H2 ∧ ∃ l, H2 R = some (.lst l) ∧ Paired (TRow K H2) l ((mulM a b wd).take i)) ⟨_, _, _, _, _, rfl, s0, [], eR0, .nil⟩ (fun i σ H2 _ ⟨_, _, _, _, _, _, s2, _⟩ => Same.seqT s2 ha) ?_ ?_
    · rintro i x σ H2 H2' hi ⟨y4, y5, y6, y7, y8, rfl, s2, l, eR, hl⟩ ⟨rfl, ex⟩
      obtain ⟨r, er, pr, rfl, hpr⟩ := Paired.getR hpa ex
      have hrm := List.mem_of_getElem? er
      have hrl := ra r hrm
      have eg : (mulM a b wd)[i]? = some ((transp b wd).map fun c => dotI r c) := by
        unfold mulM
        rw [List.getElem?_map, er]
        rfl
      have hll := Paired.length hl
      rw [List.length_take] at hll
      -- line = []
      refine ⟨by show 0 ≤ sizeLine; decide, fun L nL => ?_⟩
      have s3 : Same H2' (upd H2' L (.lst [])) := same_upd nL
      -- for k in range(width)
      refine ⟨_, rfl, (wd : Int), rfl, by omega, by omega, ?_⟩
      refine for_it walk_range (fun k σ H3 => ∃ y6 y7 y8, σ = [some (.ref pa), some (.ref pb), some (.int wd), some (.ref R), some (.ref pr), some (.ref L), y6, y7, y8] ∧ Same H2' H3 ∧ H3 L = some (.lst ((((transp b wd).map fun c => dotI r c).take k).map V.int))) ⟨_, _, _, rfl, s3, by rw [upd_same]; rfl⟩ (fun _ _ _ _ _ => trivial) ?_ ?_
      · rintro k x σ H3 H3' hk ⟨y6, y7, y8, rfl, s4, eL⟩ ⟨rfl, rfl⟩
        have hk' : k < wd := by omega
        have sb := s2.trans s4
        -- for j in range(len(b))
        refine ⟨_, rfl, pb, _, rfl, .inr (Same.seqT sb hb), _, rfl, by omega, by omega, ?_⟩
        refine for_it walk_range (fun j σ H4 => ∃ y8, σ = [some (.ref pa), some (.ref pb), some (.int wd), some (.ref R), some (.ref pr), some (.ref L), some (.int (0 + (k : Int))), some (.int ((List.zipWith (· * ·) r (b.map fun r => r.getD k 0)).take j).sum), y8] ∧ H4 = H3') ⟨_, rfl, rfl⟩ (fun _ _ _ _ _ => trivial) ?_ ?_
        · rintro j x σ H4 H4' hj ⟨y8, rfl, rfl⟩ ⟨rfl, rfl⟩
          have hj' : j < b.length := by omega
          have hjr : j < r.length := by omega
          obtain ⟨vb, evb, qb, rfl, hqb⟩ := Paired.getR (Paired.swap hpb) (List.getElem?_eq_getElem hj')
          have hbl := rb _ (List.getElem_mem hj')
          have hkb : k < (b[j]).length := by omega
          refine ⟨_, rfl, _, rfl, _, rfl, pr, _, _, _, rfl, rfl, Same.seqT sb hpr, at_of (j := j) (by omega) (ints_at (List.getElem?_eq_getElem hjr)), ?_⟩
          refine ⟨_, rfl, _, rfl, pb, wb, _, _, rfl, rfl, Same.seqT sb hb, at_of (j := j) (by omega) evb, _, rfl, qb, _, _, _, rfl, rfl, Same.seqT sb hqb, at_of (j := k) (by omega) (ints_at (List.getElem?_eq_getElem hkb)), ?_⟩
          refine ⟨_, _, rfl, rfl, mulx_ok (ba r hrm _ (List.getElem_mem hjr)) (bb _ (List.getElem_mem hj') _ (List.getElem_mem hkb)) hB, _, _, rfl, rfl, ?_⟩
          refine ⟨some (.int (0 + (j : Int))), ?_, rfl⟩
          have ez : (List.zipWith (· * ·) r (b.map fun r => r.getD k 0))[j]? = some (r[j] * (b[j])[k]) := by
            rw [List.getElem?_zipWith, List.getElem?_eq_getElem hjr, List.getElem?_map, List.getElem?_eq_getElem hj']
            show some (r[j] * (b[j]).getD k 0) = _
            rw [List.getD_eq_getElem?_getD, List.getElem?_eq_getElem hkb]
            rfl
          rw [sum_take ez]
          rfl
        · rintro σ H4 ⟨y8, rfl, rfl⟩
          -- line.append(total)
          refine ⟨_, rfl, .inl ⟨rfl, _, .inl (.inl eL)⟩, _, rfl, L, _, _, rfl, rfl, eL, small1000 (by rw [List.length_map, List.length_take, List.length_map, transp_len]; omega), ?_⟩
          refine ⟨_, _, _, rfl, fun c o h => ?_, ?_⟩
          · rw [upd_ne (ne_of_none h nL)]
            exact s4 _ _ h
          · rw [upd_same, List.take_of_length_le (l := List.zipWith (· * ·) r (b.map fun r => r.getD k 0)) (by rw [List.length_zipWith, List.length_map]; omega)]
            have ec : ((transp b wd).map fun c => dotI r c)[k]? = some (dotI r (b.map fun r => r.getD k 0)) := by
              unfold transp
              rw [List.getElem?_map, List.getElem?_map, List.getElem?_range hk']
              rfl
            rw [List.take_add_one, ec, List.map_append]
            rfl
      · rintro σ H3 ⟨y6, y7, y8, rfl, s4, eL⟩
        rw [List.take_of_length_le (by rw [List.length_map, transp_len]; omega)] at eL
        -- out.append(tuple(line))
        have eR3 := s4 _ _ eR
        refine ⟨_, rfl, .inl ⟨rfl, _, .inl (.inl eR3)⟩, _, rfl, L, _, rfl, .inl ⟨.inl (.inl eL), fun t nt => ?_⟩⟩
        have st := same_upd (o := .tup (((transp b wd).map fun c => dotI r c).map V.int)) nt
        have eR4 := st _ _ eR3
        refine ⟨R, l, _, rfl, rfl, eR4, small1000 (by omega), ?_⟩
        have htR : t ≠ R := by
          rintro rfl
          rw [eR3] at nt
          cases nt
        refine ⟨_, _, _, _, _, rfl, fun c o h => ?_, l ++ [.ref t], upd_same, ?_⟩
        · rw [upd_ne (ne_of_none h nR)]
          exact st _ _ (s4 _ _ (s2 _ _ h))
        · rw [List.take_add_one, eg]
          refine Paired.snoc (L2.Paired.mapP hl fun _ _ r => TRow.off eR4 Off.upd (TRow.same st (TRow.same s4 r))) ⟨t, rfl, .inl (.inl ?_)⟩
          rw [upd_ne htR, upd_same]
    · rintro σ H2 ⟨y4, y5, y6, y7, y8, rfl, s2, l, eR, hl⟩
      refine ⟨_, rfl, R, l, rfl, .inl ⟨.inl (.inl eR), fun t nt => ?_⟩⟩
      refine q _ _ (s2.trans (same_upd nt)) ⟨t, l, rfl, .inl (.inl upd_same), ?_⟩
      rw [List.take_of_length_le (by rw [mulM_len]; omega)] at hl
      exact L2.Paired.mapP hl fun _ _ => TRow.same (same_upd nt)
theorem cal_law_product (T : Top K mg) (hN : base.NoSeer) (hT : P.given.tree = none) : Cal P w K mg base 1 "_law_product" (sp_law_product K) [] := ⟨⟨_, _, _, [], ok_law_product T hN hT, T.g_law_product, T.F_law_product.kp, T.b_law_product, .nil⟩⟩
/-! ### _law_is_rows -/
def sp_law_is_rows (K : PySem.W.Frag) (C : Addr) : Sp := fun vs H Q _ => ∃ (v : V) (m : List (List Int)) (n wd : Nat), vs = [v, .int n, .int wd] ∧ IsGrid K C H v m wd ∧ m.length = n ∧ n ≤ 1000 ∧ Q (.bl true) H

end
end K06
namespace K06
open PySem PySem.Spec PyProof.Rows L2 Gm
open C8 (Cal Met Mak pe_c pe_mt pe_mt0 pe_mk)
section
variable {P : Program} {w : World} {K : PySem.W.Frag} {mg : Str → Option Value} {base : Heap}
/-! ### _law_determinant -/
def SRows (K : PySem.W.Frag) (H : Hp) (v : V) (m : List (List Int)) : Prop := ∃ a ws, v = .ref a ∧ Gm.Seq K H a ws ∧ Paired (TRow K H) ws m
def detT (n : Nat) (f : List (List Int) → Int) (m : List (List Int)) (k : Nat) : Int := (1 - 2 * ((k : Int) % 2)) * (m.headD []).getD k 0 * f (m.tail.map fun r => r.eraseIdx k)
/-- the law's determinant, by the first row -/
def detL : Nat → List (List Int) → Int
  | 0, _ => 1
  | n + 1, m => ((List.range (n + 1)).map (detT n (detL n) m)).sum
theorem sq_tail {n B : Nat} {m : List (List Int)} (h : Sq (n + 1) B m) {k : Nat} (hk : k < n + 1) : Sq n B (m.tail.map fun r => r.eraseIdx k) := by
  refine ⟨by rw [List.length_map, List.length_tail, h.len]; rfl, fun r hr => ?_, fun r hr => ?_⟩
  · obtain ⟨r', hr', rfl⟩ := List.mem_map.mp hr
    have := h.row r' (List.mem_of_mem_tail hr')
    rw [List.length_eraseIdx_of_lt (by omega), this]
    rfl
  · obtain ⟨r', hr', rfl⟩ := List.mem_map.mp hr
    exact fun x hx => h.bits r' (List.mem_of_mem_tail hr') x (List.mem_of_mem_eraseIdx hx)
theorem sum_le {b : Nat} : ∀ {l : List Int}, (∀ x ∈ l, x.natAbs ≤ b) → l.sum.natAbs ≤ l.length * b
  | [], _ => by simp
  | x :: l, h => by
    have h1 := h x (List.mem_cons_self ..)
    have h2 := sum_le fun y hy => h y (List.mem_cons_of_mem _ hy)
    rw [List.sum_cons, List.length_cons, Nat.succ_mul]
    omega
theorem detT_le {n B c : Nat} {f : List (List Int) → Int} {m : List (List Int)} (h : Sq (n + 1) B m) {k : Nat} (hk : k < n + 1) (hf : (f (m.tail.map fun r => r.eraseIdx k)).natAbs < 2 ^ c) : (detT n f m k).natAbs ≤ 2 ^ B * 2 ^ c := by
  have h0 : ((m.headD []).getD k 0).natAbs < 2 ^ B := by
    cases m with
    | nil => exact absurd h.len (by simp)
    | cons r m =>
      have hr := h.row r (List.mem_cons_self ..)
      have hk' : k < r.length := by omega
      show (r.getD k 0).natAbs < 2 ^ B
      rw [List.getD_eq_getElem?_getD, List.getElem?_eq_getElem hk']
      exact h.bits r (List.mem_cons_self ..) _ (List.getElem_mem hk')
  have h1 : (1 - 2 * ((k : Int) % 2)).natAbs = 1 := by omega
  unfold detT
  rw [Int.natAbs_mul, Int.natAbs_mul, h1, Nat.one_mul]
  exact Nat.mul_le_mul (Nat.le_of_lt h0) (Nat.le_of_lt hf)
theorem detL_le {B : Nat} : ∀ {n : Nat} {m : List (List Int)}, n ≤ 10 → Sq n B m → (detL n m).natAbs < 2 ^ (n * (B + 8) + 1)
  | 0, m, _, _ => by
    show (1 : Int).natAbs < 2 ^ (0 * (B + 8) + 1)
    rw [Nat.zero_mul]
    decide
  | n + 1, m, hn, h => by
    have hs : (detL (n + 1) m).natAbs ≤ ((List.range (n + 1)).map (detT n (detL n) m)).length * (2 ^ B * 2 ^ (n * (B + 8) + 1)) := by
      refine sum_le fun x hx => ?_
      obtain ⟨k, hk, rfl⟩ := List.mem_map.mp hx
      have hk' := List.mem_range.mp hk
      exact detT_le h hk' (detL_le (by omega) (sq_tail h hk'))
    rw [List.length_map, List.length_range, ← Nat.pow_add] at hs
    have h2 : n + 1 < 2 ^ 8 := by have : (2 : Nat) ^ 8 = 256 := rfl; omega
    have h3 : (n + 1) * 2 ^ (B + (n * (B + 8) + 1)) < 2 ^ 8 * 2 ^ (B + (n * (B + 8) + 1)) := (Nat.mul_lt_mul_right (Nat.two_pow_pos _)).mpr h2
    rw [← Nat.pow_add] at h3
    have e : 8 + (B + (n * (B + 8) + 1)) = (n + 1) * (B + 8) + 1 := by rw [Nat.succ_mul]; omega
    rw [e] at h3
    omega
def sp_det (K : PySem.W.Frag) (n : Nat) : Sp := fun vs H Q _ => ∃ v m B, vs = [v] ∧ SRows K H v m ∧ Sq n B m ∧ B ≤ 1200000 ∧ ∀ H', Same H H' → Q (.int (detL n m)) H'
theorem ok_det (T : Top K mg) (hN : base.NoSeer) (hT : P.given.tree = none) : ∀ n, n ≤ 8 → FnOk P w K mg base CX0 (n + 1) T.a_law_determinant T.d_law_determinant ["rows"] (sp_det K n)
  | 0, _ => by
    refine T.F_law_determinant.ok sc_law_determinant (fun vs H Q E h => ?_) (fun cdv A outer s H vs Q E hr h => ?_)
    · obtain ⟨v, m, B, rfl, _⟩ := h
      rfl
    · obtain ⟨v, m, B, rfl, ⟨a, ws, rfl, hs, hp⟩, sq, hB, q⟩ := h
      refine ⟨_, (pss_cons (ps_if (pt_cmpR op_eq (pe_callB (lenS K rfl) (by rfl) T.z_len (by decide +kernel) (pa_cons (pv 0) pa_nil)) pe_int (nomark _))
      (pss_one (ps_ret pe_int))
      pss_nil)
      (pss_cons ps_never
      (pss_cons ps_never
      (pss_one ps_never)))), ?_⟩
      refine ⟨_, rfl, a, ws, rfl, hs, rfl, _, rfl, ?_⟩
      rw [show decide (V.int (ws.length : Int) = V.int 0) = true by rw [Paired.length hp, sq.len]; exact decide_eq_true rfl]
      exact iteT (q H (Same.refl _))
  | n + 1, hn8 => by
    have IH := ok_det T hN hT n (by omega)
    have cself : Cal P w K mg base (n + 1) "_law_determinant" (sp_det K n) [] := ⟨⟨_, _, _, [], IH, T.g_law_determinant, T.F_law_determinant.kp, T.b_law_determinant, .nil⟩⟩
    refine T.F_law_determinant.ok sc_law_determinant (fun vs H Q E h => ?_) (fun cdv A outer s H vs Q E hr h => ?_)
    · obtain ⟨v, m, B, rfl, _⟩ := h
      rfl
    · obtain ⟨v, m, B, rfl, ⟨a, ws, rfl, hs, hp⟩, sq, hB, q⟩ := h
      have lw := Paired.length hp
      have lm := sq.len
      obtain ⟨r0, mt, rfl⟩ : ∃ r0 mt, m = r0 :: mt := by
        cases m with
        | nil => exact absurd lm (by simp)
        | cons r0 mt => exact ⟨r0, mt, rfl⟩
      obtain ⟨v0, wt, rfl⟩ : ∃ v0 wt, ws = v0 :: wt := by
        cases ws with
        | nil => exact absurd lw (by simp)
        | cons v0 wt => exact ⟨v0, wt, rfl⟩
      have hr0 := sq.row r0 (List.mem_cons_self ..)
      obtain ⟨⟨b0, rfl, hb0⟩, hpt⟩ : TRow K H v0 r0 ∧ Paired (TRow K H) wt mt := by
        cases hp with
        | cons x y => exact ⟨x, y⟩
      have lwt := Paired.length hpt
      have lmt : mt.length = n := by rw [List.length_cons] at lm; omega
      refine ⟨_, (pss_cons (ps_if (pt_cmpR op_eq (pe_callB (lenS K rfl) (by rfl) T.z_len (by decide +kernel) (pa_cons (pv 0) pa_nil)) pe_int (nomark _))
      (pss_one (ps_ret pe_int))
      pss_nil)
      (pss_cons (ps_set (i := 1) sc_law_determinant.nd rfl (by first | exact .inl rfl | exact .inr rfl) pe_int)
      (pss_cons (ps_for PassesOwn.never rfl (pi_range1 (by rfl) T.z_range (pa_cons (pe_callB (lenS K rfl) (by rfl) T.z_len (by decide +kernel) (pa_cons (pv 0) pa_nil)) pa_nil)) (pg_name (i := 2) sc_law_determinant.nd rfl (by first | exact .inl rfl | exact .inr rfl))
      (pss_one (ps_if (pt_cmpR op_ne (pe_ix (ixT K rfl) (pe_ix (ixS K rfl) (pv 0) pe_int (fun _ _ => rfl)) (pv 2) (fun _ _ => rfl)) pe_int (nomark _))
      (pss_cons (ps_setLc (i := 3) (own := [("row", 4)]) (g := (gName 4)) (by rfl) sc_law_determinant.nd rfl rfl (sw_true rfl rfl rfl (by decide +kernel)) (piS K rfl (pe_slice (slSK K rfl) (pv 0) (po_some pe_int) po_none)) ((by show BlkOk ["rows", "total", "k", "minor", "row"] (defScope s_law_determinant) _ _; exact blkOk_by (by decide +kernel))) (fun _ _ _ _ _ => (pg_name (i := 4) sc_law_determinant.nd rfl (by first | exact .inl rfl | exact .inr rfl))) (fun _ _ _ _ _ => pts_nil) (fun _ _ _ _ _ => (pe_op (catK K rfl) (pe_slice (slTK K rfl) (pv 4) po_none (po_some (pv 2))) (pe_slice (slTK K rfl) (pv 4) (po_some (pe_op op_add (pv 2) pe_int)) po_none))))
      (pss_one (ps_set (i := 1) sc_law_determinant.nd rfl (by first | exact .inl rfl | exact .inr rfl) (pe_op op_add (pv 1) (pe_op op_mulX (pe_op op_mulX (pe_op op_sub pe_int (pe_op op_mul pe_int (pe_op op_mod (pv 2) pe_int))) (pe_ix (ixT K rfl) (pe_ix (ixS K rfl) (pv 0) pe_int (fun _ _ => rfl)) (pv 2) (fun _ _ => rfl))) (pe_c cself hr (Nat.le_refl _) (by rfl) (pa_cons (pv 3) pa_nil)))))))
      pss_nil)))
      (pss_one (ps_ret (pv 1)))))), ?_⟩
      refine ⟨_, rfl, a, _, rfl, hs, rfl, _, rfl, ?_⟩
      rw [show decide (V.int (((V.ref b0 :: wt).length : Nat) : Int) = V.int 0) = false from decide_eq_false fun z => by have := V.int.inj z; rw [List.length_cons] at this; omega]
      refine iteF ?_
      -- total = 0; for k in range(len(rows))
      refine ⟨_, rfl, a, _, rfl, hs, _, rfl, by omega, by rw [lw, lm]; omega, ?_⟩
      rw [show ((((V.ref b0 :: wt).length : Nat) : Int)).toNat = n + 1 by rw [lw, lm]; exact Int.toNat_natCast _]
      refine for_it walk_range (fun k σ H2 => ∃ y2 y3 y4, σ = [some (.ref a), some (.int (((List.range (n + 1)).map (detT n (detL n) (r0 :: mt))).take k).sum), y2, y3, y4] ∧ Same H H2) ⟨_, _, _, rfl, Same.refl _⟩ (fun _ _ _ _ _ => trivial) ?_ ?_
      · rintro k x σ H2 H2' hk ⟨y2, y3, y4, rfl, s2⟩ ⟨rfl, rfl⟩
        have hk0 : k < r0.length := by omega
        have et : ((List.range (n + 1)).map (detT n (detL n) (r0 :: mt)))[k]? = some (detT n (detL n) (r0 :: mt) k) := by
          rw [List.getElem?_map, List.getElem?_range hk]
          rfl
        have e0 : (r0 : List Int).getD k 0 = r0[k] := by
          rw [List.getD_eq_getElem?_getD, List.getElem?_eq_getElem hk0]
          rfl
        have hs2 := hs.same s2
        refine ⟨_, rfl, ?_⟩
        refine rIx_seq hs2 (atI_nat (j := 0) rfl) ?_
        refine ⟨_, rfl, b0, _, _, _, rfl, rfl, Same.seqT s2 hb0, at_of (j := k) (by omega) (ints_at (List.getElem?_eq_getElem hk0)), rfl, _, rfl, ?_⟩
        by_cases hz : r0[k] = 0
        · rw [hz]
          refine iteNS rfl ?_
          refine ⟨some (.int (0 + (k : Int))), y3, y4, ?_, s2⟩
          rw [sum_take et]
          have : detT n (detL n) (r0 :: mt) k = 0 := by
            unfold detT
            show (1 - 2 * ((k : Int) % 2)) * r0.getD k 0 * _ = 0
            rw [e0, hz, Int.mul_zero, Int.zero_mul]
          rw [this, Int.add_zero]
          rfl
        · rw [show decide (V.int r0[k] = V.int 0) = false from decide_eq_false fun z => hz (V.int.inj z)]
          refine iteT ?_
          -- minor_v = [row[:k] + row[k + 1:] for row in rows[1:]]
          refine ⟨_, rfl, 1, rfl, ?_⟩
          refine (show rSlS K (.ref a) (some 1) none H2' _ from ?_)
          refine slS_drop1 hs2 (by simp) fun p1 H3 s3 hs3 => ?_
          refine ⟨p1, _, rfl, hs3, fun J G W hG D hD => ?_⟩
          refine lc_all W hD (by rw [List.length_drop, lw, lm]; omega) (fun H4 s4 => hG H4 fun b _ o => s4 b o) (fun i v H4 => ∃ r, (mt.map fun r => r.eraseIdx k)[i]? = some r ∧ TRow K H4 v r) (fun i v H4 H5 acc e o ⟨r, er, h⟩ => ⟨r, er, TRow.off e o h⟩) ?_ gm_name ?_
          · rintro i x H4 H4' acc Ko hi s4 eD ⟨rfl, ex⟩ kk
            have ex' : wt[i]? = some x := ex
            obtain ⟨r, er, b, rfl, hb⟩ := Paired.getR hpt ex'
            have hrl := sq.row r (List.mem_cons_of_mem _ (List.mem_of_getElem? er))
            have hb4 := Same.seqT (s2.trans (s3.trans s4)) hb
            refine ⟨rfl, ?_⟩
            refine ⟨_, rfl, _, rfl, 0 + (k : Int), rfl, ?_⟩
            rw [Int.zero_add]
            refine slA_take hb4 k fun p2 H5 s5 t5 => ?_
            refine ⟨_, rfl, _, rfl, (k : Int), 1, (by show V.int (0 + (k : Int)) = V.int (k : Int); rw [Int.zero_add]), rfl, _, rfl, ?_⟩
            rw [show (k : Int) + 1 = ((k + 1 : Nat) : Int) by omega]
            refine (show rSlA K (.ref b) (some ((k + 1 : Nat) : Int)) none H5 (fun y H2 => rCatA K (.ref p2) y H2 Ko) from ?_)
            refine slA_drop (Same.seqT s5 hb4) (k + 1) fun p3 H6 s6 t6 => ?_
            refine catA (Same.seqT s6 t5) t6 (by simp only [List.length_take, List.length_drop, List.length_map]; omega) fun p4 H7 s7 t7 => ?_
            refine kk _ _ (s5.trans (s6.trans s7)) ⟨r.eraseIdx k, by rw [List.getElem?_map, er]; rfl, p4, rfl, ?_⟩
            rw [← erase_eq, List.map_append, List.map_take, List.map_drop]
            exact t7
          · intro H4 l s4 eD hpl
            have sm := s2.trans (s3.trans s4)
            have hrows : SRows K H4 (.ref D) (mt.map fun r => r.eraseIdx k) := ⟨D, l, rfl, .inl (.inl (.inl eD)), paired_at (m := mt.map fun r => r.eraseIdx k) (by rw [List.length_map, List.length_drop, List.length_cons, lwt]; omega) hpl⟩
            have sqt : Sq n B (mt.map fun r => r.eraseIdx k) := sq_tail sq hk
            -- total = total + (1 - 2 * (k % 2)) * rows[0][k] * _law_determinant(minor_v)
            refine ⟨_, rfl, _, rfl, 0 + (k : Int), 2, rfl, rfl, by show (0 : Int) < 2; decide, 2, _, rfl, rfl, .inl ⟨by decide, by decide⟩, 1, _, rfl, rfl, _, rfl, ?_⟩
            refine rIx_seq (hs.same sm) (atI_nat (j := 0) rfl) ?_
            refine ⟨_, rfl, b0, _, _, _, rfl, rfl, Same.seqT sm hb0, at_of (j := k) (by omega) (ints_at (List.getElem?_eq_getElem hk0)), ?_⟩
            have bk : (r0[k]).natAbs < 2 ^ B := sq.bits r0 (List.mem_cons_self ..) _ (List.getElem_mem hk0)
            have b1 : (1 - 2 * ((0 + (k : Int)) % 2)).natAbs < 2 ^ 1 := by
              have : (1 - 2 * ((0 + (k : Int)) % 2)).natAbs = 1 := by omega
              rw [this]
              decide
            refine ⟨_, _, rfl, rfl, mulx_ok b1 bk (by omega), _, rfl, .ref D, _, B, rfl, hrows, sqt, hB, fun H5 s5 => ?_⟩
            have bd := detL_le (by omega : n ≤ 10) sqt
            have hnB : n * (B + 8) ≤ 8 * (1200000 + 8) := Nat.mul_le_mul (by omega) (by omega)
            refine ⟨_, _, rfl, rfl, mulx_ok (wide_lt b1 bk) bd (by omega), _, _, rfl, rfl, ?_⟩
            refine ⟨some (.int (0 + (k : Int))), some (.ref D), y4, ?_, sm.trans s5⟩
            rw [sum_take et]
            have : detT n (detL n) (r0 :: mt) k = (1 - 2 * ((0 + (k : Int)) % 2)) * r0[k] * detL n (mt.map fun r => r.eraseIdx k) := by
              unfold detT
              show (1 - 2 * ((k : Int) % 2)) * r0.getD k 0 * _ = _
              rw [e0, Int.zero_add]
              rfl
            rw [this]
            rfl
      · rintro σ H2 ⟨y2, y3, y4, rfl, s2⟩
        rw [List.take_of_length_le (by rw [List.length_map, List.length_range]; exact Nat.le_refl _)]
        exact ⟨_, rfl, q _ s2⟩
def sp_law_determinant (K : PySem.W.Frag) : Sp := fun vs H Q E => ∃ n, n ≤ 8 ∧ sp_det K n vs H Q E
theorem ok_law_determinant (T : Top K mg) (hN : base.NoSeer) (hT : P.given.tree = none) : FnOk P w K mg base CX0 10 T.a_law_determinant T.d_law_determinant ["rows"] (sp_law_determinant K) :=
  ⟨fun vs H Q E ⟨n, hn, v, m, B, e, _⟩ => by rw [e]; rfl, fun A outer s H args us vs Q E hr e b v ⟨n, hn, h⟩ => (ok_det T hN hT n hn).run A outer s H args us vs Q E (hr.mono (by omega)) e b v h⟩
theorem cal_law_determinant (T : Top K mg) (hN : base.NoSeer) (hT : P.given.tree = none) : Cal P w K mg base 10 "_law_determinant" (sp_law_determinant K) [] := ⟨⟨_, _, _, [], ok_law_determinant T hN hT, T.g_law_determinant, T.F_law_determinant.kp, T.b_law_determinant, .nil⟩⟩

end
end K06
namespace K06
open PySem PySem.Spec PyProof.Rows L2 Gm
open C8 (Cal Met Mak pe_c pe_mt pe_mt0 pe_mk)
section
variable {P : Program} {w : World} {K : PySem.W.Frag} {mg : Str → Option Value} {base : Heap}
/-! ### the determinant up to size 4 -/
theorem row1 {r : List Int} (h : r.length = 1) : ∃ a, r = [a] := by
  match r, h with
  | [a], _ => exact ⟨a, rfl⟩
theorem row2 {r : List Int} (h : r.length = 2) : ∃ a b, r = [a, b] := by
  match r, h with
  | [a, b], _ => exact ⟨a, b, rfl⟩
theorem row3 {r : List Int} (h : r.length = 3) : ∃ a b c, r = [a, b, c] := by
  match r, h with
  | [a, b, c], _ => exact ⟨a, b, c, rfl⟩
theorem row4 {r : List Int} (h : r.length = 4) : ∃ a b c d, r = [a, b, c, d] := by
  match r, h with
  | [a, b, c, d], _ => exact ⟨a, b, c, d, rfl⟩
/-- a square matrix -/
structure Sz (n : Nat) (m : List (List Int)) : Prop where
  len : m.length = n
  row : ∀ r ∈ m, r.length = n
theorem Sq.sz {n B : Nat} {m : List (List Int)} (h : Sq n B m) : Sz n m := ⟨h.len, h.row⟩
theorem sz1 {m : List (List Int)} (h : Sz 1 m) : ∃ a, m = [[a]] := by
  obtain ⟨h1, h2⟩ := h
  match m, h1, h2 with
  | [r], _, h2 =>
    obtain ⟨a, rfl⟩ := row1 (h2 r (by simp))
    exact ⟨a, rfl⟩
theorem sz2 {m : List (List Int)} (h : Sz 2 m) : ∃ a b c d, m = [[a, b], [c, d]] := by
  obtain ⟨h1, h2⟩ := h
  match m, h1, h2 with
  | [r, t], _, h2 =>
    obtain ⟨a, b, rfl⟩ := row2 (h2 r (by simp))
    obtain ⟨c, d, rfl⟩ := row2 (h2 t (by simp))
    exact ⟨a, b, c, d, rfl⟩
theorem sz3 {m : List (List Int)} (h : Sz 3 m) : ∃ a b c d e f g k l, m = [[a, b, c], [d, e, f], [g, k, l]] := by
  obtain ⟨h1, h2⟩ := h
  match m, h1, h2 with
  | [r, t, u], _, h2 =>
    obtain ⟨a, b, c, rfl⟩ := row3 (h2 r (by simp))
    obtain ⟨d, e, f, rfl⟩ := row3 (h2 t (by simp))
    obtain ⟨g, k, l, rfl⟩ := row3 (h2 u (by simp))
    exact ⟨a, b, c, d, e, f, g, k, l, rfl⟩
theorem sz4 {m : List (List Int)} (h : Sz 4 m) : ∃ a b c d e f g k l o p q r s t u, m = [[a, b, c, d], [e, f, g, k], [l, o, p, q], [r, s, t, u]] := by
  obtain ⟨h1, h2⟩ := h
  match m, h1, h2 with
  | [r1, r2, r3, r4], _, h2 =>
    obtain ⟨a, b, c, d, rfl⟩ := row4 (h2 r1 (by simp))
    obtain ⟨e, f, g, k, rfl⟩ := row4 (h2 r2 (by simp))
    obtain ⟨l, o, p, q, rfl⟩ := row4 (h2 r3 (by simp))
    obtain ⟨r, s, t, u, rfl⟩ := row4 (h2 r4 (by simp))
    exact ⟨a, b, c, d, e, f, g, k, l, o, p, q, r, s, t, u, rfl⟩
def D2 (a b c d : Int) : Int := a * d - b * c
def D3 (a b c d e f g k l : Int) : Int := a * D2 e f k l - b * D2 d f g l + c * D2 d e g k
def D4 (a b c d e f g k l o p q r s t u : Int) : Int := a * D3 f g k o p q s t u - b * D3 e g k l p q r t u + c * D3 e f k l o q r s u - d * D3 e f g l o p r s t
theorem detL1 (a : Int) : detL 1 [[a]] = a := by
  show (1 - 2 * ((0 : Int) % 2)) * a * 1 + 0 = a
  grind
theorem detL2 (a b c d : Int) : detL 2 [[a, b], [c, d]] = D2 a b c d := by
  show (1 - 2 * ((0 : Int) % 2)) * a * detL 1 [[d]] + ((1 - 2 * ((1 : Int) % 2)) * b * detL 1 [[c]] + 0) = a * d - b * c
  rw [detL1, detL1]
  grind
theorem detL3 (a b c d e f g k l : Int) : detL 3 [[a, b, c], [d, e, f], [g, k, l]] = D3 a b c d e f g k l := by
  show (1 - 2 * ((0 : Int) % 2)) * a * detL 2 [[e, f], [k, l]] + ((1 - 2 * ((1 : Int) % 2)) * b * detL 2 [[d, f], [g, l]] + ((1 - 2 * ((2 : Int) % 2)) * c * detL 2 [[d, e], [g, k]] + 0)) = a * D2 e f k l - b * D2 d f g l + c * D2 d e g k
  rw [detL2, detL2, detL2]
  grind
theorem detL4 (a b c d e f g k l o p q r s t u : Int) : detL 4 [[a, b, c, d], [e, f, g, k], [l, o, p, q], [r, s, t, u]] = D4 a b c d e f g k l o p q r s t u := by
  show (1 - 2 * ((0 : Int) % 2)) * a * detL 3 [[f, g, k], [o, p, q], [s, t, u]] + ((1 - 2 * ((1 : Int) % 2)) * b * detL 3 [[e, g, k], [l, p, q], [r, t, u]] + ((1 - 2 * ((2 : Int) % 2)) * c * detL 3 [[e, f, k], [l, o, q], [r, s, u]] + ((1 - 2 * ((3 : Int) % 2)) * d * detL 3 [[e, f, g], [l, o, p], [r, s, t]] + 0))) = a * D3 f g k o p q s t u - b * D3 e g k l p q r t u + c * D3 e f k l o q r s u - d * D3 e f g l o p r s t
  rw [detL3, detL3, detL3, detL3]
  generalize D3 f g k o p q s t u = A
  generalize D3 e g k l p q r t u = B
  generalize D3 e f k l o q r s u = C
  generalize D3 e f g l o p r s t = D
  grind
theorem fdiv_of {x l D : Int} (hl : l ≠ 0) (h : x = l * D) : x.fdiv l = D := by
  rw [h]
  exact Int.mul_fdiv_cancel_left D hl
/-! #### the elimination -/
theorem bare1 (s l x : Int) : bare 1 s l [[x]] = s * x := by
  by_cases h : x = 0
  · subst h
    show (0 : Int) = s * 0
    rw [Int.mul_zero]
  · have e : bare 1 s l [[x]] = match (if x ≠ 0 then some 0 else none) with
      | none => 0
      | some k => bare 0 (if k % 2 = 1 then -s else s) ((([[x]] : List (List Int)).getD k []).headD 0) (((([[x]] : List (List Int)).eraseIdx k)).map fun r => clr ((([[x]] : List (List Int))).getD k []) r l) := rfl
    rw [e, if_pos h]
    rfl
theorem bare2 (s l a b c d D : Int) (hl : l ≠ 0) (h : D2 a b c d = l * D) : bare 2 s l [[a, b], [c, d]] = s * D := by
  have e : bare 2 s l [[a, b], [c, d]] = match (if a ≠ 0 then some 0 else if c ≠ 0 then some 1 else none) with
      | none => 0
      | some k => bare 1 (if k % 2 = 1 then -s else s) ((([[a, b], [c, d]] : List (List Int)).getD k []).headD 0) (((([[a, b], [c, d]] : List (List Int)).eraseIdx k)).map fun r => clr ((([[a, b], [c, d]] : List (List Int))).getD k []) r l) := rfl
  unfold D2 at h
  rw [e]
  by_cases ha : a = 0
  · rw [if_neg (fun z => z ha)]
    by_cases hc : c = 0
    · rw [if_neg (fun z => z hc)]
      have : l * D = 0 := by rw [← h, ha, hc]; grind
      rcases Int.mul_eq_zero.mp this with z | z
      · exact absurd z hl
      · rw [z, Int.mul_zero]
    · rw [if_pos hc]
      show bare 1 (-s) c [[(c * b - a * d).fdiv l]] = s * D
      rw [fdiv_of hl (show c * b - a * d = l * (-D) by grind), bare1]
      grind
  · rw [if_pos ha]
    show bare 1 s a [[(a * d - c * b).fdiv l]] = s * D
    rw [fdiv_of hl (show a * d - c * b = l * D by grind), bare1]

end
end K06
namespace K06
open PySem PySem.Spec PyProof.Rows L2 Gm
open C8 (Cal Met Mak pe_c pe_mt pe_mt0 pe_mk)
section
variable {P : Program} {w : World} {K : PySem.W.Frag} {mg : Str → Option Value} {base : Heap}
theorem chio3 (a b c d e f g k x : Int) : D2 (a * e - d * b) (a * f - d * c) (a * k - g * b) (a * x - g * c) = a * D3 a b c d e f g k x := by
  unfold D3 D2
  grind
theorem D3_swap1 (a b c d e f g k x : Int) : D3 d e f a b c g k x = -D3 a b c d e f g k x := by
  unfold D3 D2
  grind
theorem D3_swap2 (a b c d e f g k x : Int) : D3 g k x a b c d e f = D3 a b c d e f g k x := by
  unfold D3 D2
  grind
theorem D3_zero (b c e f k x : Int) : D3 0 b c 0 e f 0 k x = 0 := by
  unfold D3 D2
  grind
theorem cancel2 {l x y : Int} (hl : l ≠ 0) (h : l * l * x = l * l * y) : x = y :=
  Int.eq_of_mul_eq_mul_left (Int.mul_ne_zero hl hl) h
theorem can3 {l a D Z p1 p2 p3 p4 : Int} (hl : l ≠ 0) (t : D2 (l * p1) (l * p2) (l * p3) (l * p4) = a * Z) (hz : Z = l * l * D) : D2 p1 p2 p3 p4 = a * D := by
  refine cancel2 hl ?_
  rw [hz] at t
  unfold D2 at t ⊢
  grind
theorem bare3 (s l a b c d e f g k x D q1 q2 q3 q4 q5 q6 : Int) (hl : l ≠ 0) (h1 : D2 a b d e = l * q1) (h2 : D2 a c d f = l * q2) (h3 : D2 a b g k = l * q3) (h4 : D2 a c g x = l * q4) (h5 : D2 d e g k = l * q5) (h6 : D2 d f g x = l * q6) (h : D3 a b c d e f g k x = l * l * D) :
    bare 3 s l [[a, b, c], [d, e, f], [g, k, x]] = s * D := by
  have eb : bare 3 s l [[a, b, c], [d, e, f], [g, k, x]] = match (if a ≠ 0 then some 0 else if d ≠ 0 then some 1 else if g ≠ 0 then some 2 else none) with
      | none => 0
      | some k' => bare 2 (if k' % 2 = 1 then -s else s) ((([[a, b, c], [d, e, f], [g, k, x]] : List (List Int)).getD k' []).headD 0) (((([[a, b, c], [d, e, f], [g, k, x]] : List (List Int)).eraseIdx k')).map fun r => clr ((([[a, b, c], [d, e, f], [g, k, x]] : List (List Int))).getD k' []) r l) := rfl
  rw [eb]
  unfold D2 at h1 h2 h3 h4 h5 h6
  by_cases ha : a = 0
  · rw [if_neg (fun z => z ha)]
    by_cases hd : d = 0
    · rw [if_neg (fun z => z hd)]
      by_cases hg : g = 0
      · rw [if_neg (fun z => z hg)]
        rw [ha, hd, hg, D3_zero] at h
        have z : D = 0 := cancel2 hl (by rw [← h, Int.mul_zero])
        rw [z, Int.mul_zero]
      · rw [if_pos hg]
        show bare 2 s g [[(g * b - a * k).fdiv l, (g * c - a * x).fdiv l], [(g * e - d * k).fdiv l, (g * f - d * x).fdiv l]] = s * D
        have f1 : g * b - a * k = l * (-q3) := by grind
        have f2 : g * c - a * x = l * (-q4) := by grind
        have f3 : g * e - d * k = l * (-q5) := by grind
        have f4 : g * f - d * x = l * (-q6) := by grind
        rw [fdiv_of hl f1, fdiv_of hl f2, fdiv_of hl f3, fdiv_of hl f4]
        refine bare2 s g _ _ _ _ D hg (can3 hl (Z := l * l * D) ?_ rfl)
        have t := chio3 g k x a b c d e f
        rw [D3_swap2, h, f1, f2, f3, f4] at t
        exact t
    · rw [if_pos hd]
      show bare 2 (-s) d [[(d * b - a * e).fdiv l, (d * c - a * f).fdiv l], [(d * k - g * e).fdiv l, (d * x - g * f).fdiv l]] = s * D
      have f1 : d * b - a * e = l * (-q1) := by grind
      have f2 : d * c - a * f = l * (-q2) := by grind
      have f3 : d * k - g * e = l * q5 := by grind
      have f4 : d * x - g * f = l * q6 := by grind
      rw [fdiv_of hl f1, fdiv_of hl f2, fdiv_of hl f3, fdiv_of hl f4]
      rw [show s * D = -s * (-D) by grind]
      refine bare2 (-s) d _ _ _ _ (-D) hd (can3 hl (Z := -(l * l * D)) ?_ (by rw [Int.mul_neg]))
      have t := chio3 d e f a b c g k x
      rw [D3_swap1, h, f1, f2, f3, f4] at t
      exact t
  · rw [if_pos ha]
    show bare 2 s a [[(a * e - d * b).fdiv l, (a * f - d * c).fdiv l], [(a * k - g * b).fdiv l, (a * x - g * c).fdiv l]] = s * D
    have f1 : a * e - d * b = l * q1 := by grind
    have f2 : a * f - d * c = l * q2 := by grind
    have f3 : a * k - g * b = l * q3 := by grind
    have f4 : a * x - g * c = l * q4 := by grind
    rw [fdiv_of hl f1, fdiv_of hl f2, fdiv_of hl f3, fdiv_of hl f4]
    refine bare2 s a _ _ _ _ D ha (can3 hl (Z := l * l * D) ?_ rfl)
    have t := chio3 a b c d e f g k x
    rw [h, f1, f2, f3, f4] at t
    exact t
/-! size 4 -/
theorem chio4 (t0 t1 t2 t3 u0 u1 u2 u3 v0 v1 v2 v3 w0 w1 w2 w3 : Int) :
    D3 (t0 * u1 - u0 * t1) (t0 * u2 - u0 * t2) (t0 * u3 - u0 * t3) (t0 * v1 - v0 * t1) (t0 * v2 - v0 * t2) (t0 * v3 - v0 * t3) (t0 * w1 - w0 * t1) (t0 * w2 - w0 * t2) (t0 * w3 - w0 * t3) =
      t0 * t0 * D4 t0 t1 t2 t3 u0 u1 u2 u3 v0 v1 v2 v3 w0 w1 w2 w3 := by
  unfold D4 D3 D2
  grind
theorem D4_at1 (t0 t1 t2 t3 u0 u1 u2 u3 v0 v1 v2 v3 w0 w1 w2 w3 : Int) : D4 u0 u1 u2 u3 t0 t1 t2 t3 v0 v1 v2 v3 w0 w1 w2 w3 = -D4 t0 t1 t2 t3 u0 u1 u2 u3 v0 v1 v2 v3 w0 w1 w2 w3 := by
  unfold D4 D3 D2
  grind
theorem D4_at2 (t0 t1 t2 t3 u0 u1 u2 u3 v0 v1 v2 v3 w0 w1 w2 w3 : Int) : D4 v0 v1 v2 v3 t0 t1 t2 t3 u0 u1 u2 u3 w0 w1 w2 w3 = D4 t0 t1 t2 t3 u0 u1 u2 u3 v0 v1 v2 v3 w0 w1 w2 w3 := by
  unfold D4 D3 D2
  grind
theorem D4_at3 (t0 t1 t2 t3 u0 u1 u2 u3 v0 v1 v2 v3 w0 w1 w2 w3 : Int) : D4 w0 w1 w2 w3 t0 t1 t2 t3 u0 u1 u2 u3 v0 v1 v2 v3 = -D4 t0 t1 t2 t3 u0 u1 u2 u3 v0 v1 v2 v3 w0 w1 w2 w3 := by
  unfold D4 D3 D2
  grind
theorem D4_zero (t1 t2 t3 u1 u2 u3 v1 v2 v3 w1 w2 w3 : Int) : D4 0 t1 t2 t3 0 u1 u2 u3 0 v1 v2 v3 0 w1 w2 w3 = 0 := by
  unfold D4 D3 D2
  grind
/-- after one step, with the pivot row t -/
theorem bare4p (s t0 t1 t2 t3 u0 u1 u2 u3 v0 v1 v2 v3 w0 w1 w2 w3 D : Int) (h0 : t0 ≠ 0) (h : D4 t0 t1 t2 t3 u0 u1 u2 u3 v0 v1 v2 v3 w0 w1 w2 w3 = D) :
    bare 3 s t0 [[(t0 * u1 - u0 * t1).fdiv 1, (t0 * u2 - u0 * t2).fdiv 1, (t0 * u3 - u0 * t3).fdiv 1], [(t0 * v1 - v0 * t1).fdiv 1, (t0 * v2 - v0 * t2).fdiv 1, (t0 * v3 - v0 * t3).fdiv 1], [(t0 * w1 - w0 * t1).fdiv 1, (t0 * w2 - w0 * t2).fdiv 1, (t0 * w3 - w0 * t3).fdiv 1]] = s * D := by
  have f : ∀ x : Int, x.fdiv 1 = x := fun x => fdiv_of (by decide) (by rw [Int.one_mul])
  simp only [f]
  refine bare3 s t0 _ _ _ _ _ _ _ _ _ D (D3 t0 t1 t2 u0 u1 u2 v0 v1 v2) (D3 t0 t1 t3 u0 u1 u3 v0 v1 v3) (D3 t0 t1 t2 u0 u1 u2 w0 w1 w2) (D3 t0 t1 t3 u0 u1 u3 w0 w1 w3) (D3 t0 t1 t2 v0 v1 v2 w0 w1 w2) (D3 t0 t1 t3 v0 v1 v3 w0 w1 w3) h0 ?_ ?_ ?_ ?_ ?_ ?_ ?_
  · exact chio3 ..
  · exact chio3 ..
  · exact chio3 ..
  · exact chio3 ..
  · exact chio3 ..
  · exact chio3 ..
  · rw [chio4, h]
theorem bare4 (s t0 t1 t2 t3 u0 u1 u2 u3 v0 v1 v2 v3 w0 w1 w2 w3 : Int) :
    bare 4 s 1 [[t0, t1, t2, t3], [u0, u1, u2, u3], [v0, v1, v2, v3], [w0, w1, w2, w3]] = s * D4 t0 t1 t2 t3 u0 u1 u2 u3 v0 v1 v2 v3 w0 w1 w2 w3 := by
  have eb : bare 4 s 1 [[t0, t1, t2, t3], [u0, u1, u2, u3], [v0, v1, v2, v3], [w0, w1, w2, w3]] = match (if t0 ≠ 0 then some 0 else if u0 ≠ 0 then some 1 else if v0 ≠ 0 then some 2 else if w0 ≠ 0 then some 3 else none) with
      | none => 0
      | some k' => bare 3 (if k' % 2 = 1 then -s else s) ((([[t0, t1, t2, t3], [u0, u1, u2, u3], [v0, v1, v2, v3], [w0, w1, w2, w3]] : List (List Int)).getD k' []).headD 0) (((([[t0, t1, t2, t3], [u0, u1, u2, u3], [v0, v1, v2, v3], [w0, w1, w2, w3]] : List (List Int)).eraseIdx k')).map fun r => clr ((([[t0, t1, t2, t3], [u0, u1, u2, u3], [v0, v1, v2, v3], [w0, w1, w2, w3]] : List (List Int))).getD k' []) r 1) := rfl
  rw [eb]
  by_cases ht : t0 = 0
  · rw [if_neg (fun z => z ht)]
    by_cases hu : u0 = 0
    · rw [if_neg (fun z => z hu)]
      by_cases hv : v0 = 0
      · rw [if_neg (fun z => z hv)]
        by_cases hw : w0 = 0
        · rw [if_neg (fun z => z hw), ht, hu, hv, hw, D4_zero, Int.mul_zero]
        · rw [if_pos hw]
          refine (bare4p (-s) w0 w1 w2 w3 t0 t1 t2 t3 u0 u1 u2 u3 v0 v1 v2 v3 _ hw rfl).trans ?_
          rw [D4_at3]
          grind
      · rw [if_pos hv]
        refine (bare4p s v0 v1 v2 v3 t0 t1 t2 t3 u0 u1 u2 u3 w0 w1 w2 w3 _ hv rfl).trans ?_
        rw [D4_at2]
    · rw [if_pos hu]
      refine (bare4p (-s) u0 u1 u2 u3 t0 t1 t2 t3 v0 v1 v2 v3 w0 w1 w2 w3 _ hu rfl).trans ?_
      rw [D4_at1]
      grind
  · rw [if_pos ht]
    exact bare4p s t0 t1 t2 t3 u0 u1 u2 u3 v0 v1 v2 v3 w0 w1 w2 w3 _ ht rfl
theorem bare3' (s a b c d e f g k x : Int) : bare 3 s 1 [[a, b, c], [d, e, f], [g, k, x]] = s * D3 a b c d e f g k x :=
  bare3 s 1 a b c d e f g k x (D3 a b c d e f g k x) _ _ _ _ _ _ (by decide) (Int.one_mul _).symm (Int.one_mul _).symm (Int.one_mul _).symm (Int.one_mul _).symm (Int.one_mul _).symm (Int.one_mul _).symm (by rw [Int.one_mul, Int.one_mul])
/-- the elimination gives the law's determinant -/
theorem bare_det {n : Nat} {m : List (List Int)} (hn : n ≤ 4) (h : Sz n m) : bare n 1 1 m = detL n m := by
  match n, hn, h with
  | 0, _, _ => exact Int.one_mul 1
  | 1, _, h =>
    obtain ⟨a, rfl⟩ := sz1 h
    rw [bare1, detL1, Int.one_mul]
  | 2, _, h =>
    obtain ⟨a, b, c, d, rfl⟩ := sz2 h
    rw [bare2 1 1 a b c d (D2 a b c d) (by decide) (Int.one_mul _).symm, detL2, Int.one_mul]
  | 3, _, h =>
    obtain ⟨a, b, c, d, e, f, g, k, x, rfl⟩ := sz3 h
    rw [bare3', detL3, Int.one_mul]
  | 4, _, h =>
    obtain ⟨a, b, c, d, e, f, g, k, l, o, p, q, r, s, t, u, rfl⟩ := sz4 h
    rw [bare4, detL4, Int.one_mul]

end
end K06
namespace K06
open PySem PySem.Spec PyProof.Rows L2 Gm
open C8 (Cal Met Mak pe_c pe_mt pe_mt0 pe_mk)
section
variable {P : Program} {w : World} {K : PySem.W.Frag} {mg : Str → Option Value} {base : Heap}
/-! ### products, transposed, adjugate -/
def sgn (k : Nat) : Int := 1 - 2 * ((k : Int) % 2)
/-- the law's adjugate, by minors -/
def dueM (n : Nat) (m : List (List Int)) : List (List Int) := (List.range n).map fun i => (List.range n).map fun k => sgn (i + k) * detL (n - 1) (cutM m k i)
/-- d times the unit matrix -/
def scalM (n : Nat) (d : Int) : List (List Int) := (List.range n).map fun i => (List.range n).map fun k => d * (if i = k then 1 else 0)
theorem sgn_even {k : Nat} (h : k % 2 = 0) : sgn k = 1 := by
  unfold sgn
  omega
theorem sgn_odd {k : Nat} (h : k % 2 = 1) : sgn k = -1 := by
  unfold sgn
  omega
theorem mul_eq2 (a00 a01 a10 a11 b00 b01 b10 b11 : Int) : mulM [[a00, a01], [a10, a11]] [[b00, b01], [b10, b11]] 2 = [[a00 * b00 + (a01 * b10 + 0), a00 * b01 + (a01 * b11 + 0)], [a10 * b00 + (a11 * b10 + 0), a10 * b01 + (a11 * b11 + 0)]] := rfl
set_option maxHeartbeats 40000000 in
theorem mulD2 (a00 a01 a10 a11 b00 b01 b10 b11 : Int) : D2 (a00 * b00 + (a01 * b10 + 0)) (a00 * b01 + (a01 * b11 + 0)) (a10 * b00 + (a11 * b10 + 0)) (a10 * b01 + (a11 * b11 + 0)) = D2 a00 a01 a10 a11 * D2 b00 b01 b10 b11 := by
  unfold D2
  grind
theorem tr_eq2 (a00 a01 a10 a11 : Int) : transp [[a00, a01], [a10, a11]] 2 = [[a00, a10], [a01, a11]] := rfl
theorem trD2 (a00 a01 a10 a11 : Int) : D2 a00 a10 a01 a11 = D2 a00 a01 a10 a11 := by
  unfold D2
  grind
theorem due_eq2 (a00 a01 a10 a11 : Int) : dueM 2 [[a00, a01], [a10, a11]] = [[a11, -a01], [-a10, a00]] := by
  show [[sgn (0 + 0) * detL 1 [[a11]], sgn (0 + 1) * detL 1 [[a01]]], [sgn (1 + 0) * detL 1 [[a10]], sgn (1 + 1) * detL 1 [[a00]]]] = _
  simp only [detL1]
  simp only [sgn_even (show (0 + 0) % 2 = 0 from rfl), sgn_odd (show (0 + 1) % 2 = 1 from rfl), sgn_odd (show (1 + 0) % 2 = 1 from rfl), sgn_even (show (1 + 1) % 2 = 0 from rfl), Int.one_mul, Int.neg_mul]
theorem adj2l00 (a00 a01 a10 a11 : Int) : a00 * a11 + (a01 * (-a10) + 0) = D2 a00 a01 a10 a11 * 1 := by
  unfold D2
  grind
theorem adj2l01 (a00 a01 a10 a11 : Int) : a00 * (-a01) + (a01 * a00 + 0) = D2 a00 a01 a10 a11 * 0 := by
  unfold D2
  grind
theorem adj2l10 (a00 a01 a10 a11 : Int) : a10 * a11 + (a11 * (-a10) + 0) = D2 a00 a01 a10 a11 * 0 := by
  unfold D2
  grind
theorem adj2l11 (a00 a01 a10 a11 : Int) : a10 * (-a01) + (a11 * a00 + 0) = D2 a00 a01 a10 a11 * 1 := by
  unfold D2
  grind
theorem adj2r00 (a00 a01 a10 a11 : Int) : a11 * a00 + ((-a01) * a10 + 0) = D2 a00 a01 a10 a11 * 1 := by
  unfold D2
  grind
theorem adj2r01 (a00 a01 a10 a11 : Int) : a11 * a01 + ((-a01) * a11 + 0) = D2 a00 a01 a10 a11 * 0 := by
  unfold D2
  grind
theorem adj2r10 (a00 a01 a10 a11 : Int) : (-a10) * a00 + (a00 * a10 + 0) = D2 a00 a01 a10 a11 * 0 := by
  unfold D2
  grind
theorem adj2r11 (a00 a01 a10 a11 : Int) : (-a10) * a01 + (a00 * a11 + 0) = D2 a00 a01 a10 a11 * 1 := by
  unfold D2
  grind
theorem scal_eq2 (d : Int) : scalM 2 d = [[d * 1, d * 0], [d * 0, d * 1]] := rfl
theorem adjM2l (a00 a01 a10 a11 : Int) : mulM [[a00, a01], [a10, a11]] [[a11, -a01], [-a10, a00]] 2 = scalM 2 (D2 a00 a01 a10 a11) := by
  show [[a00 * a11 + (a01 * (-a10) + 0), a00 * (-a01) + (a01 * a00 + 0)], [a10 * a11 + (a11 * (-a10) + 0), a10 * (-a01) + (a11 * a00 + 0)]] = _
  rw [scal_eq2]
  rw [adj2l00 a00 a01 a10 a11, adj2l01 a00 a01 a10 a11, adj2l10 a00 a01 a10 a11, adj2l11 a00 a01 a10 a11]
theorem adjM2r (a00 a01 a10 a11 : Int) : mulM [[a11, -a01], [-a10, a00]] [[a00, a01], [a10, a11]] 2 = scalM 2 (D2 a00 a01 a10 a11) := by
  show [[a11 * a00 + ((-a01) * a10 + 0), a11 * a01 + ((-a01) * a11 + 0)], [(-a10) * a00 + (a00 * a10 + 0), (-a10) * a01 + (a00 * a11 + 0)]] = _
  rw [scal_eq2]
  rw [adj2r00 a00 a01 a10 a11, adj2r01 a00 a01 a10 a11, adj2r10 a00 a01 a10 a11, adj2r11 a00 a01 a10 a11]
theorem mul_eq3 (a00 a01 a02 a10 a11 a12 a20 a21 a22 b00 b01 b02 b10 b11 b12 b20 b21 b22 : Int) : mulM [[a00, a01, a02], [a10, a11, a12], [a20, a21, a22]] [[b00, b01, b02], [b10, b11, b12], [b20, b21, b22]] 3 = [[a00 * b00 + (a01 * b10 + (a02 * b20 + 0)), a00 * b01 + (a01 * b11 + (a02 * b21 + 0)), a00 * b02 + (a01 * b12 + (a02 * b22 + 0))], [a10 * b00 + (a11 * b10 + (a12 * b20 + 0)), a10 * b01 + (a11 * b11 + (a12 * b21 + 0)), a10 * b02 + (a11 * b12 + (a12 * b22 + 0))], [a20 * b00 + (a21 * b10 + (a22 * b20 + 0)), a20 * b01 + (a21 * b11 + (a22 * b21 + 0)), a20 * b02 + (a21 * b12 + (a22 * b22 + 0))]] := rfl
set_option maxHeartbeats 40000000 in
theorem mulD3 (a00 a01 a02 a10 a11 a12 a20 a21 a22 b00 b01 b02 b10 b11 b12 b20 b21 b22 : Int) : D3 (a00 * b00 + (a01 * b10 + (a02 * b20 + 0))) (a00 * b01 + (a01 * b11 + (a02 * b21 + 0))) (a00 * b02 + (a01 * b12 + (a02 * b22 + 0))) (a10 * b00 + (a11 * b10 + (a12 * b20 + 0))) (a10 * b01 + (a11 * b11 + (a12 * b21 + 0))) (a10 * b02 + (a11 * b12 + (a12 * b22 + 0))) (a20 * b00 + (a21 * b10 + (a22 * b20 + 0))) (a20 * b01 + (a21 * b11 + (a22 * b21 + 0))) (a20 * b02 + (a21 * b12 + (a22 * b22 + 0))) = D3 a00 a01 a02 a10 a11 a12 a20 a21 a22 * D3 b00 b01 b02 b10 b11 b12 b20 b21 b22 := by
  unfold D3 D2
  grind
theorem tr_eq3 (a00 a01 a02 a10 a11 a12 a20 a21 a22 : Int) : transp [[a00, a01, a02], [a10, a11, a12], [a20, a21, a22]] 3 = [[a00, a10, a20], [a01, a11, a21], [a02, a12, a22]] := rfl
theorem trD3 (a00 a01 a02 a10 a11 a12 a20 a21 a22 : Int) : D3 a00 a10 a20 a01 a11 a21 a02 a12 a22 = D3 a00 a01 a02 a10 a11 a12 a20 a21 a22 := by
  unfold D3 D2
  grind
theorem due_eq3 (a00 a01 a02 a10 a11 a12 a20 a21 a22 : Int) : dueM 3 [[a00, a01, a02], [a10, a11, a12], [a20, a21, a22]] = [[D2 a11 a12 a21 a22, -D2 a01 a02 a21 a22, D2 a01 a02 a11 a12], [-D2 a10 a12 a20 a22, D2 a00 a02 a20 a22, -D2 a00 a02 a10 a12], [D2 a10 a11 a20 a21, -D2 a00 a01 a20 a21, D2 a00 a01 a10 a11]] := by
  show [[sgn (0 + 0) * detL 2 [[a11, a12], [a21, a22]], sgn (0 + 1) * detL 2 [[a01, a02], [a21, a22]], sgn (0 + 2) * detL 2 [[a01, a02], [a11, a12]]], [sgn (1 + 0) * detL 2 [[a10, a12], [a20, a22]], sgn (1 + 1) * detL 2 [[a00, a02], [a20, a22]], sgn (1 + 2) * detL 2 [[a00, a02], [a10, a12]]], [sgn (2 + 0) * detL 2 [[a10, a11], [a20, a21]], sgn (2 + 1) * detL 2 [[a00, a01], [a20, a21]], sgn (2 + 2) * detL 2 [[a00, a01], [a10, a11]]]] = _
  simp only [detL2]
  simp only [sgn_even (show (0 + 0) % 2 = 0 from rfl), sgn_odd (show (0 + 1) % 2 = 1 from rfl), sgn_even (show (0 + 2) % 2 = 0 from rfl), sgn_odd (show (1 + 0) % 2 = 1 from rfl), sgn_even (show (1 + 1) % 2 = 0 from rfl), sgn_odd (show (1 + 2) % 2 = 1 from rfl), sgn_even (show (2 + 0) % 2 = 0 from rfl), sgn_odd (show (2 + 1) % 2 = 1 from rfl), sgn_even (show (2 + 2) % 2 = 0 from rfl), Int.one_mul, Int.neg_mul]
theorem adj3l00 (a00 a01 a02 a10 a11 a12 a20 a21 a22 : Int) : a00 * (D2 a11 a12 a21 a22) + (a01 * (-D2 a10 a12 a20 a22) + (a02 * (D2 a10 a11 a20 a21) + 0)) = D3 a00 a01 a02 a10 a11 a12 a20 a21 a22 * 1 := by
  unfold D3 D2
  grind
theorem adj3l01 (a00 a01 a02 a10 a11 a12 a20 a21 a22 : Int) : a00 * (-D2 a01 a02 a21 a22) + (a01 * (D2 a00 a02 a20 a22) + (a02 * (-D2 a00 a01 a20 a21) + 0)) = D3 a00 a01 a02 a10 a11 a12 a20 a21 a22 * 0 := by
  unfold D3 D2
  grind
theorem adj3l02 (a00 a01 a02 a10 a11 a12 a20 a21 a22 : Int) : a00 * (D2 a01 a02 a11 a12) + (a01 * (-D2 a00 a02 a10 a12) + (a02 * (D2 a00 a01 a10 a11) + 0)) = D3 a00 a01 a02 a10 a11 a12 a20 a21 a22 * 0 := by
  unfold D3 D2
  grind
theorem adj3l10 (a00 a01 a02 a10 a11 a12 a20 a21 a22 : Int) : a10 * (D2 a11 a12 a21 a22) + (a11 * (-D2 a10 a12 a20 a22) + (a12 * (D2 a10 a11 a20 a21) + 0)) = D3 a00 a01 a02 a10 a11 a12 a20 a21 a22 * 0 := by
  unfold D3 D2
  grind
theorem adj3l11 (a00 a01 a02 a10 a11 a12 a20 a21 a22 : Int) : a10 * (-D2 a01 a02 a21 a22) + (a11 * (D2 a00 a02 a20 a22) + (a12 * (-D2 a00 a01 a20 a21) + 0)) = D3 a00 a01 a02 a10 a11 a12 a20 a21 a22 * 1 := by
  unfold D3 D2
  grind
theorem adj3l12 (a00 a01 a02 a10 a11 a12 a20 a21 a22 : Int) : a10 * (D2 a01 a02 a11 a12) + (a11 * (-D2 a00 a02 a10 a12) + (a12 * (D2 a00 a01 a10 a11) + 0)) = D3 a00 a01 a02 a10 a11 a12 a20 a21 a22 * 0 := by
  unfold D3 D2
  grind
theorem adj3l20 (a00 a01 a02 a10 a11 a12 a20 a21 a22 : Int) : a20 * (D2 a11 a12 a21 a22) + (a21 * (-D2 a10 a12 a20 a22) + (a22 * (D2 a10 a11 a20 a21) + 0)) = D3 a00 a01 a02 a10 a11 a12 a20 a21 a22 * 0 := by
  unfold D3 D2
  grind
theorem adj3l21 (a00 a01 a02 a10 a11 a12 a20 a21 a22 : Int) : a20 * (-D2 a01 a02 a21 a22) + (a21 * (D2 a00 a02 a20 a22) + (a22 * (-D2 a00 a01 a20 a21) + 0)) = D3 a00 a01 a02 a10 a11 a12 a20 a21 a22 * 0 := by
  unfold D3 D2
  grind
theorem adj3l22 (a00 a01 a02 a10 a11 a12 a20 a21 a22 : Int) : a20 * (D2 a01 a02 a11 a12) + (a21 * (-D2 a00 a02 a10 a12) + (a22 * (D2 a00 a01 a10 a11) + 0)) = D3 a00 a01 a02 a10 a11 a12 a20 a21 a22 * 1 := by
  unfold D3 D2
  grind
theorem adj3r00 (a00 a01 a02 a10 a11 a12 a20 a21 a22 : Int) : (D2 a11 a12 a21 a22) * a00 + ((-D2 a01 a02 a21 a22) * a10 + ((D2 a01 a02 a11 a12) * a20 + 0)) = D3 a00 a01 a02 a10 a11 a12 a20 a21 a22 * 1 := by
  unfold D3 D2
  grind
theorem adj3r01 (a00 a01 a02 a10 a11 a12 a20 a21 a22 : Int) : (D2 a11 a12 a21 a22) * a01 + ((-D2 a01 a02 a21 a22) * a11 + ((D2 a01 a02 a11 a12) * a21 + 0)) = D3 a00 a01 a02 a10 a11 a12 a20 a21 a22 * 0 := by
  unfold D3 D2
  grind
theorem adj3r02 (a00 a01 a02 a10 a11 a12 a20 a21 a22 : Int) : (D2 a11 a12 a21 a22) * a02 + ((-D2 a01 a02 a21 a22) * a12 + ((D2 a01 a02 a11 a12) * a22 + 0)) = D3 a00 a01 a02 a10 a11 a12 a20 a21 a22 * 0 := by
  unfold D3 D2
  grind
theorem adj3r10 (a00 a01 a02 a10 a11 a12 a20 a21 a22 : Int) : (-D2 a10 a12 a20 a22) * a00 + ((D2 a00 a02 a20 a22) * a10 + ((-D2 a00 a02 a10 a12) * a20 + 0)) = D3 a00 a01 a02 a10 a11 a12 a20 a21 a22 * 0 := by
  unfold D3 D2
  grind
theorem adj3r11 (a00 a01 a02 a10 a11 a12 a20 a21 a22 : Int) : (-D2 a10 a12 a20 a22) * a01 + ((D2 a00 a02 a20 a22) * a11 + ((-D2 a00 a02 a10 a12) * a21 + 0)) = D3 a00 a01 a02 a10 a11 a12 a20 a21 a22 * 1 := by
  unfold D3 D2
  grind
theorem adj3r12 (a00 a01 a02 a10 a11 a12 a20 a21 a22 : Int) : (-D2 a10 a12 a20 a22) * a02 + ((D2 a00 a02 a20 a22) * a12 + ((-D2 a00 a02 a10 a12) * a22 + 0)) = D3 a00 a01 a02 a10 a11 a12 a20 a21 a22 * 0 := by
  unfold D3 D2
  grind
theorem adj3r20 (a00 a01 a02 a10 a11 a12 a20 a21 a22 : Int) : (D2 a10 a11 a20 a21) * a00 + ((-D2 a00 a01 a20 a21) * a10 + ((D2 a00 a01 a10 a11) * a20 + 0)) = D3 a00 a01 a02 a10 a11 a12 a20 a21 a22 * 0 := by
  unfold D3 D2
  grind
theorem adj3r21 (a00 a01 a02 a10 a11 a12 a20 a21 a22 : Int) : (D2 a10 a11 a20 a21) * a01 + ((-D2 a00 a01 a20 a21) * a11 + ((D2 a00 a01 a10 a11) * a21 + 0)) = D3 a00 a01 a02 a10 a11 a12 a20 a21 a22 * 0 := by
  unfold D3 D2
  grind
theorem adj3r22 (a00 a01 a02 a10 a11 a12 a20 a21 a22 : Int) : (D2 a10 a11 a20 a21) * a02 + ((-D2 a00 a01 a20 a21) * a12 + ((D2 a00 a01 a10 a11) * a22 + 0)) = D3 a00 a01 a02 a10 a11 a12 a20 a21 a22 * 1 := by
  unfold D3 D2
  grind
theorem scal_eq3 (d : Int) : scalM 3 d = [[d * 1, d * 0, d * 0], [d * 0, d * 1, d * 0], [d * 0, d * 0, d * 1]] := rfl
theorem adjM3l (a00 a01 a02 a10 a11 a12 a20 a21 a22 : Int) : mulM [[a00, a01, a02], [a10, a11, a12], [a20, a21, a22]] [[D2 a11 a12 a21 a22, -D2 a01 a02 a21 a22, D2 a01 a02 a11 a12], [-D2 a10 a12 a20 a22, D2 a00 a02 a20 a22, -D2 a00 a02 a10 a12], [D2 a10 a11 a20 a21, -D2 a00 a01 a20 a21, D2 a00 a01 a10 a11]] 3 = scalM 3 (D3 a00 a01 a02 a10 a11 a12 a20 a21 a22) := by
  show [[a00 * (D2 a11 a12 a21 a22) + (a01 * (-D2 a10 a12 a20 a22) + (a02 * (D2 a10 a11 a20 a21) + 0)), a00 * (-D2 a01 a02 a21 a22) + (a01 * (D2 a00 a02 a20 a22) + (a02 * (-D2 a00 a01 a20 a21) + 0)), a00 * (D2 a01 a02 a11 a12) + (a01 * (-D2 a00 a02 a10 a12) + (a02 * (D2 a00 a01 a10 a11) + 0))], [a10 * (D2 a11 a12 a21 a22) + (a11 * (-D2 a10 a12 a20 a22) + (a12 * (D2 a10 a11 a20 a21) + 0)), a10 * (-D2 a01 a02 a21 a22) + (a11 * (D2 a00 a02 a20 a22) + (a12 * (-D2 a00 a01 a20 a21) + 0)), a10 * (D2 a01 a02 a11 a12) + (a11 * (-D2 a00 a02 a10 a12) + (a12 * (D2 a00 a01 a10 a11) + 0))], [a20 * (D2 a11 a12 a21 a22) + (a21 * (-D2 a10 a12 a20 a22) + (a22 * (D2 a10 a11 a20 a21) + 0)), a20 * (-D2 a01 a02 a21 a22) + (a21 * (D2 a00 a02 a20 a22) + (a22 * (-D2 a00 a01 a20 a21) + 0)), a20 * (D2 a01 a02 a11 a12) + (a21 * (-D2 a00 a02 a10 a12) + (a22 * (D2 a00 a01 a10 a11) + 0))]] = _
  rw [scal_eq3]
  rw [adj3l00 a00 a01 a02 a10 a11 a12 a20 a21 a22, adj3l01 a00 a01 a02 a10 a11 a12 a20 a21 a22, adj3l02 a00 a01 a02 a10 a11 a12 a20 a21 a22, adj3l10 a00 a01 a02 a10 a11 a12 a20 a21 a22, adj3l11 a00 a01 a02 a10 a11 a12 a20 a21 a22, adj3l12 a00 a01 a02 a10 a11 a12 a20 a21 a22, adj3l20 a00 a01 a02 a10 a11 a12 a20 a21 a22, adj3l21 a00 a01 a02 a10 a11 a12 a20 a21 a22, adj3l22 a00 a01 a02 a10 a11 a12 a20 a21 a22]
theorem adjM3r (a00 a01 a02 a10 a11 a12 a20 a21 a22 : Int) : mulM [[D2 a11 a12 a21 a22, -D2 a01 a02 a21 a22, D2 a01 a02 a11 a12], [-D2 a10 a12 a20 a22, D2 a00 a02 a20 a22, -D2 a00 a02 a10 a12], [D2 a10 a11 a20 a21, -D2 a00 a01 a20 a21, D2 a00 a01 a10 a11]] [[a00, a01, a02], [a10, a11, a12], [a20, a21, a22]] 3 = scalM 3 (D3 a00 a01 a02 a10 a11 a12 a20 a21 a22) := by
  show [[(D2 a11 a12 a21 a22) * a00 + ((-D2 a01 a02 a21 a22) * a10 + ((D2 a01 a02 a11 a12) * a20 + 0)), (D2 a11 a12 a21 a22) * a01 + ((-D2 a01 a02 a21 a22) * a11 + ((D2 a01 a02 a11 a12) * a21 + 0)), (D2 a11 a12 a21 a22) * a02 + ((-D2 a01 a02 a21 a22) * a12 + ((D2 a01 a02 a11 a12) * a22 + 0))], [(-D2 a10 a12 a20 a22) * a00 + ((D2 a00 a02 a20 a22) * a10 + ((-D2 a00 a02 a10 a12) * a20 + 0)), (-D2 a10 a12 a20 a22) * a01 + ((D2 a00 a02 a20 a22) * a11 + ((-D2 a00 a02 a10 a12) * a21 + 0)), (-D2 a10 a12 a20 a22) * a02 + ((D2 a00 a02 a20 a22) * a12 + ((-D2 a00 a02 a10 a12) * a22 + 0))], [(D2 a10 a11 a20 a21) * a00 + ((-D2 a00 a01 a20 a21) * a10 + ((D2 a00 a01 a10 a11) * a20 + 0)), (D2 a10 a11 a20 a21) * a01 + ((-D2 a00 a01 a20 a21) * a11 + ((D2 a00 a01 a10 a11) * a21 + 0)), (D2 a10 a11 a20 a21) * a02 + ((-D2 a00 a01 a20 a21) * a12 + ((D2 a00 a01 a10 a11) * a22 + 0))]] = _
  rw [scal_eq3]
  rw [adj3r00 a00 a01 a02 a10 a11 a12 a20 a21 a22, adj3r01 a00 a01 a02 a10 a11 a12 a20 a21 a22, adj3r02 a00 a01 a02 a10 a11 a12 a20 a21 a22, adj3r10 a00 a01 a02 a10 a11 a12 a20 a21 a22, adj3r11 a00 a01 a02 a10 a11 a12 a20 a21 a22, adj3r12 a00 a01 a02 a10 a11 a12 a20 a21 a22, adj3r20 a00 a01 a02 a10 a11 a12 a20 a21 a22, adj3r21 a00 a01 a02 a10 a11 a12 a20 a21 a22, adj3r22 a00 a01 a02 a10 a11 a12 a20 a21 a22]
theorem mul_eq4 (a00 a01 a02 a03 a10 a11 a12 a13 a20 a21 a22 a23 a30 a31 a32 a33 b00 b01 b02 b03 b10 b11 b12 b13 b20 b21 b22 b23 b30 b31 b32 b33 : Int) : mulM [[a00, a01, a02, a03], [a10, a11, a12, a13], [a20, a21, a22, a23], [a30, a31, a32, a33]] [[b00, b01, b02, b03], [b10, b11, b12, b13], [b20, b21, b22, b23], [b30, b31, b32, b33]] 4 = [[a00 * b00 + (a01 * b10 + (a02 * b20 + (a03 * b30 + 0))), a00 * b01 + (a01 * b11 + (a02 * b21 + (a03 * b31 + 0))), a00 * b02 + (a01 * b12 + (a02 * b22 + (a03 * b32 + 0))), a00 * b03 + (a01 * b13 + (a02 * b23 + (a03 * b33 + 0)))], [a10 * b00 + (a11 * b10 + (a12 * b20 + (a13 * b30 + 0))), a10 * b01 + (a11 * b11 + (a12 * b21 + (a13 * b31 + 0))), a10 * b02 + (a11 * b12 + (a12 * b22 + (a13 * b32 + 0))), a10 * b03 + (a11 * b13 + (a12 * b23 + (a13 * b33 + 0)))], [a20 * b00 + (a21 * b10 + (a22 * b20 + (a23 * b30 + 0))), a20 * b01 + (a21 * b11 + (a22 * b21 + (a23 * b31 + 0))), a20 * b02 + (a21 * b12 + (a22 * b22 + (a23 * b32 + 0))), a20 * b03 + (a21 * b13 + (a22 * b23 + (a23 * b33 + 0)))], [a30 * b00 + (a31 * b10 + (a32 * b20 + (a33 * b30 + 0))), a30 * b01 + (a31 * b11 + (a32 * b21 + (a33 * b31 + 0))), a30 * b02 + (a31 * b12 + (a32 * b22 + (a33 * b32 + 0))), a30 * b03 + (a31 * b13 + (a32 * b23 + (a33 * b33 + 0)))]] := rfl
set_option maxHeartbeats 40000000 in
theorem mulD4 (a00 a01 a02 a03 a10 a11 a12 a13 a20 a21 a22 a23 a30 a31 a32 a33 b00 b01 b02 b03 b10 b11 b12 b13 b20 b21 b22 b23 b30 b31 b32 b33 : Int) : D4 (a00 * b00 + (a01 * b10 + (a02 * b20 + (a03 * b30 + 0)))) (a00 * b01 + (a01 * b11 + (a02 * b21 + (a03 * b31 + 0)))) (a00 * b02 + (a01 * b12 + (a02 * b22 + (a03 * b32 + 0)))) (a00 * b03 + (a01 * b13 + (a02 * b23 + (a03 * b33 + 0)))) (a10 * b00 + (a11 * b10 + (a12 * b20 + (a13 * b30 + 0)))) (a10 * b01 + (a11 * b11 + (a12 * b21 + (a13 * b31 + 0)))) (a10 * b02 + (a11 * b12 + (a12 * b22 + (a13 * b32 + 0)))) (a10 * b03 + (a11 * b13 + (a12 * b23 + (a13 * b33 + 0)))) (a20 * b00 + (a21 * b10 + (a22 * b20 + (a23 * b30 + 0)))) (a20 * b01 + (a21 * b11 + (a22 * b21 + (a23 * b31 + 0)))) (a20 * b02 + (a21 * b12 + (a22 * b22 + (a23 * b32 + 0)))) (a20 * b03 + (a21 * b13 + (a22 * b23 + (a23 * b33 + 0)))) (a30 * b00 + (a31 * b10 + (a32 * b20 + (a33 * b30 + 0)))) (a30 * b01 + (a31 * b11 + (a32 * b21 + (a33 * b31 + 0)))) (a30 * b02 + (a31 * b12 + (a32 * b22 + (a33 * b32 + 0)))) (a30 * b03 + (a31 * b13 + (a32 * b23 + (a33 * b33 + 0)))) = D4 a00 a01 a02 a03 a10 a11 a12 a13 a20 a21 a22 a23 a30 a31 a32 a33 * D4 b00 b01 b02 b03 b10 b11 b12 b13 b20 b21 b22 b23 b30 b31 b32 b33 := by
  unfold D4 D3 D2
  grind
theorem tr_eq4 (a00 a01 a02 a03 a10 a11 a12 a13 a20 a21 a22 a23 a30 a31 a32 a33 : Int) : transp [[a00, a01, a02, a03], [a10, a11, a12, a13], [a20, a21, a22, a23], [a30, a31, a32, a33]] 4 = [[a00, a10, a20, a30], [a01, a11, a21, a31], [a02, a12, a22, a32], [a03, a13, a23, a33]] := rfl
theorem trD4 (a00 a01 a02 a03 a10 a11 a12 a13 a20 a21 a22 a23 a30 a31 a32 a33 : Int) : D4 a00 a10 a20 a30 a01 a11 a21 a31 a02 a12 a22 a32 a03 a13 a23 a33 = D4 a00 a01 a02 a03 a10 a11 a12 a13 a20 a21 a22 a23 a30 a31 a32 a33 := by
  unfold D4 D3 D2
  grind
theorem due_eq4 (a00 a01 a02 a03 a10 a11 a12 a13 a20 a21 a22 a23 a30 a31 a32 a33 : Int) : dueM 4 [[a00, a01, a02, a03], [a10, a11, a12, a13], [a20, a21, a22, a23], [a30, a31, a32, a33]] = [[D3 a11 a12 a13 a21 a22 a23 a31 a32 a33, -D3 a01 a02 a03 a21 a22 a23 a31 a32 a33, D3 a01 a02 a03 a11 a12 a13 a31 a32 a33, -D3 a01 a02 a03 a11 a12 a13 a21 a22 a23], [-D3 a10 a12 a13 a20 a22 a23 a30 a32 a33, D3 a00 a02 a03 a20 a22 a23 a30 a32 a33, -D3 a00 a02 a03 a10 a12 a13 a30 a32 a33, D3 a00 a02 a03 a10 a12 a13 a20 a22 a23], [D3 a10 a11 a13 a20 a21 a23 a30 a31 a33, -D3 a00 a01 a03 a20 a21 a23 a30 a31 a33, D3 a00 a01 a03 a10 a11 a13 a30 a31 a33, -D3 a00 a01 a03 a10 a11 a13 a20 a21 a23], [-D3 a10 a11 a12 a20 a21 a22 a30 a31 a32, D3 a00 a01 a02 a20 a21 a22 a30 a31 a32, -D3 a00 a01 a02 a10 a11 a12 a30 a31 a32, D3 a00 a01 a02 a10 a11 a12 a20 a21 a22]] := by
  show [[sgn (0 + 0) * detL 3 [[a11, a12, a13], [a21, a22, a23], [a31, a32, a33]], sgn (0 + 1) * detL 3 [[a01, a02, a03], [a21, a22, a23], [a31, a32, a33]], sgn (0 + 2) * detL 3 [[a01, a02, a03], [a11, a12, a13], [a31, a32, a33]], sgn (0 + 3) * detL 3 [[a01, a02, a03], [a11, a12, a13], [a21, a22, a23]]], [sgn (1 + 0) * detL 3 [[a10, a12, a13], [a20, a22, a23], [a30, a32, a33]], sgn (1 + 1) * detL 3 [[a00, a02, a03], [a20, a22, a23], [a30, a32, a33]], sgn (1 + 2) * detL 3 [[a00, a02, a03], [a10, a12, a13], [a30, a32, a33]], sgn (1 + 3) * detL 3 [[a00, a02, a03], [a10, a12, a13], [a20, a22, a23]]], [sgn (2 + 0) * detL 3 [[a10, a11, a13], [a20, a21, a23], [a30, a31, a33]], sgn (2 + 1) * detL 3 [[a00, a01, a03], [a20, a21, a23], [a30, a31, a33]], sgn (2 + 2) * detL 3 [[a00, a01, a03], [a10, a11, a13], [a30, a31, a33]], sgn (2 + 3) * detL 3 [[a00, a01, a03], [a10, a11, a13], [a20, a21, a23]]], [sgn (3 + 0) * detL 3 [[a10, a11, a12], [a20, a21, a22], [a30, a31, a32]], sgn (3 + 1) * detL 3 [[a00, a01, a02], [a20, a21, a22], [a30, a31, a32]], sgn (3 + 2) * detL 3 [[a00, a01, a02], [a10, a11, a12], [a30, a31, a32]], sgn (3 + 3) * detL 3 [[a00, a01, a02], [a10, a11, a12], [a20, a21, a22]]]] = _
  simp only [detL3]
  simp only [sgn_even (show (0 + 0) % 2 = 0 from rfl), sgn_odd (show (0 + 1) % 2 = 1 from rfl), sgn_even (show (0 + 2) % 2 = 0 from rfl), sgn_odd (show (0 + 3) % 2 = 1 from rfl), sgn_odd (show (1 + 0) % 2 = 1 from rfl), sgn_even (show (1 + 1) % 2 = 0 from rfl), sgn_odd (show (1 + 2) % 2 = 1 from rfl), sgn_even (show (1 + 3) % 2 = 0 from rfl), sgn_even (show (2 + 0) % 2 = 0 from rfl), sgn_odd (show (2 + 1) % 2 = 1 from rfl), sgn_even (show (2 + 2) % 2 = 0 from rfl), sgn_odd (show (2 + 3) % 2 = 1 from rfl), sgn_odd (show (3 + 0) % 2 = 1 from rfl), sgn_even (show (3 + 1) % 2 = 0 from rfl), sgn_odd (show (3 + 2) % 2 = 1 from rfl), sgn_even (show (3 + 3) % 2 = 0 from rfl), Int.one_mul, Int.neg_mul]
theorem adj4l00 (a00 a01 a02 a03 a10 a11 a12 a13 a20 a21 a22 a23 a30 a31 a32 a33 : Int) : a00 * (D3 a11 a12 a13 a21 a22 a23 a31 a32 a33) + (a01 * (-D3 a10 a12 a13 a20 a22 a23 a30 a32 a33) + (a02 * (D3 a10 a11 a13 a20 a21 a23 a30 a31 a33) + (a03 * (-D3 a10 a11 a12 a20 a21 a22 a30 a31 a32) + 0))) = D4 a00 a01 a02 a03 a10 a11 a12 a13 a20 a21 a22 a23 a30 a31 a32 a33 * 1 := by
  unfold D4 D3 D2
  grind
theorem adj4l01 (a00 a01 a02 a03 a10 a11 a12 a13 a20 a21 a22 a23 a30 a31 a32 a33 : Int) : a00 * (-D3 a01 a02 a03 a21 a22 a23 a31 a32 a33) + (a01 * (D3 a00 a02 a03 a20 a22 a23 a30 a32 a33) + (a02 * (-D3 a00 a01 a03 a20 a21 a23 a30 a31 a33) + (a03 * (D3 a00 a01 a02 a20 a21 a22 a30 a31 a32) + 0))) = D4 a00 a01 a02 a03 a10 a11 a12 a13 a20 a21 a22 a23 a30 a31 a32 a33 * 0 := by
  unfold D4 D3 D2
  grind
theorem adj4l02 (a00 a01 a02 a03 a10 a11 a12 a13 a20 a21 a22 a23 a30 a31 a32 a33 : Int) : a00 * (D3 a01 a02 a03 a11 a12 a13 a31 a32 a33) + (a01 * (-D3 a00 a02 a03 a10 a12 a13 a30 a32 a33) + (a02 * (D3 a00 a01 a03 a10 a11 a13 a30 a31 a33) + (a03 * (-D3 a00 a01 a02 a10 a11 a12 a30 a31 a32) + 0))) = D4 a00 a01 a02 a03 a10 a11 a12 a13 a20 a21 a22 a23 a30 a31 a32 a33 * 0 := by
  unfold D4 D3 D2
  grind
theorem adj4l03 (a00 a01 a02 a03 a10 a11 a12 a13 a20 a21 a22 a23 a30 a31 a32 a33 : Int) : a00 * (-D3 a01 a02 a03 a11 a12 a13 a21 a22 a23) + (a01 * (D3 a00 a02 a03 a10 a12 a13 a20 a22 a23) + (a02 * (-D3 a00 a01 a03 a10 a11 a13 a20 a21 a23) + (a03 * (D3 a00 a01 a02 a10 a11 a12 a20 a21 a22) + 0))) = D4 a00 a01 a02 a03 a10 a11 a12 a13 a20 a21 a22 a23 a30 a31 a32 a33 * 0 := by
  unfold D4 D3 D2
  grind
theorem adj4l10 (a00 a01 a02 a03 a10 a11 a12 a13 a20 a21 a22 a23 a30 a31 a32 a33 : Int) : a10 * (D3 a11 a12 a13 a21 a22 a23 a31 a32 a33) + (a11 * (-D3 a10 a12 a13 a20 a22 a23 a30 a32 a33) + (a12 * (D3 a10 a11 a13 a20 a21 a23 a30 a31 a33) + (a13 * (-D3 a10 a11 a12 a20 a21 a22 a30 a31 a32) + 0))) = D4 a00 a01 a02 a03 a10 a11 a12 a13 a20 a21 a22 a23 a30 a31 a32 a33 * 0 := by
  unfold D4 D3 D2
  grind
theorem adj4l11 (a00 a01 a02 a03 a10 a11 a12 a13 a20 a21 a22 a23 a30 a31 a32 a33 : Int) : a10 * (-D3 a01 a02 a03 a21 a22 a23 a31 a32 a33) + (a11 * (D3 a00 a02 a03 a20 a22 a23 a30 a32 a33) + (a12 * (-D3 a00 a01 a03 a20 a21 a23 a30 a31 a33) + (a13 * (D3 a00 a01 a02 a20 a21 a22 a30 a31 a32) + 0))) = D4 a00 a01 a02 a03 a10 a11 a12 a13 a20 a21 a22 a23 a30 a31 a32 a33 * 1 := by
  unfold D4 D3 D2
  grind
theorem adj4l12 (a00 a01 a02 a03 a10 a11 a12 a13 a20 a21 a22 a23 a30 a31 a32 a33 : Int) : a10 * (D3 a01 a02 a03 a11 a12 a13 a31 a32 a33) + (a11 * (-D3 a00 a02 a03 a10 a12 a13 a30 a32 a33) + (a12 * (D3 a00 a01 a03 a10 a11 a13 a30 a31 a33) + (a13 * (-D3 a00 a01 a02 a10 a11 a12 a30 a31 a32) + 0))) = D4 a00 a01 a02 a03 a10 a11 a12 a13 a20 a21 a22 a23 a30 a31 a32 a33 * 0 := by
  unfold D4 D3 D2
  grind
theorem adj4l13 (a00 a01 a02 a03 a10 a11 a12 a13 a20 a21 a22 a23 a30 a31 a32 a33 : Int) : a10 * (-D3 a01 a02 a03 a11 a12 a13 a21 a22 a23) + (a11 * (D3 a00 a02 a03 a10 a12 a13 a20 a22 a23) + (a12 * (-D3 a00 a01 a03 a10 a11 a13 a20 a21 a23) + (a13 * (D3 a00 a01 a02 a10 a11 a12 a20 a21 a22) + 0))) = D4 a00 a01 a02 a03 a10 a11 a12 a13 a20 a21 a22 a23 a30 a31 a32 a33 * 0 := by
  unfold D4 D3 D2
  grind
theorem adj4l20 (a00 a01 a02 a03 a10 a11 a12 a13 a20 a21 a22 a23 a30 a31 a32 a33 : Int) : a20 * (D3 a11 a12 a13 a21 a22 a23 a31 a32 a33) + (a21 * (-D3 a10 a12 a13 a20 a22 a23 a30 a32 a33) + (a22 * (D3 a10 a11 a13 a20 a21 a23 a30 a31 a33) + (a23 * (-D3 a10 a11 a12 a20 a21 a22 a30 a31 a32) + 0))) = D4 a00 a01 a02 a03 a10 a11 a12 a13 a20 a21 a22 a23 a30 a31 a32 a33 * 0 := by
  unfold D4 D3 D2
  grind
theorem adj4l21 (a00 a01 a02 a03 a10 a11 a12 a13 a20 a21 a22 a23 a30 a31 a32 a33 : Int) : a20 * (-D3 a01 a02 a03 a21 a22 a23 a31 a32 a33) + (a21 * (D3 a00 a02 a03 a20 a22 a23 a30 a32 a33) + (a22 * (-D3 a00 a01 a03 a20 a21 a23 a30 a31 a33) + (a23 * (D3 a00 a01 a02 a20 a21 a22 a30 a31 a32) + 0))) = D4 a00 a01 a02 a03 a10 a11 a12 a13 a20 a21 a22 a23 a30 a31 a32 a33 * 0 := by
  unfold D4 D3 D2
  grind
theorem adj4l22 (a00 a01 a02 a03 a10 a11 a12 a13 a20 a21 a22 a23 a30 a31 a32 a33 : Int) : a20 * (D3 a01 a02 a03 a11 a12 a13 a31 a32 a33) + (a21 * (-D3 a00 a02 a03 a10 a12 a13 a30 a32 a33) + (a22 * (D3 a00 a01 a03 a10 a11 a13 a30 a31 a33) + (a23 * (-D3 a00 a01 a02 a10 a11 a12 a30 a31 a32) + 0))) = D4 a00 a01 a02 a03 a10 a11 a12 a13 a20 a21 a22 a23 a30 a31 a32 a33 * 1 := by
  unfold D4 D3 D2
  grind
theorem adj4l23 (a00 a01 a02 a03 a10 a11 a12 a13 a20 a21 a22 a23 a30 a31 a32 a33 : Int) : a20 * (-D3 a01 a02 a03 a11 a12 a13 a21 a22 a23) + (a21 * (D3 a00 a02 a03 a10 a12 a13 a20 a22 a23) + (a22 * (-D3 a00 a01 a03 a10 a11 a13 a20 a21 a23) + (a23 * (D3 a00 a01 a02 a10 a11 a12 a20 a21 a22) + 0))) = D4 a00 a01 a02 a03 a10 a11 a12 a13 a20 a21 a22 a23 a30 a31 a32 a33 * 0 := by
  unfold D4 D3 D2
  grind
theorem adj4l30 (a00 a01 a02 a03 a10 a11 a12 a13 a20 a21 a22 a23 a30 a31 a32 a33 : Int) : a30 * (D3 a11 a12 a13 a21 a22 a23 a31 a32 a33) + (a31 * (-D3 a10 a12 a13 a20 a22 a23 a30 a32 a33) + (a32 * (D3 a10 a11 a13 a20 a21 a23 a30 a31 a33) + (a33 * (-D3 a10 a11 a12 a20 a21 a22 a30 a31 a32) + 0))) = D4 a00 a01 a02 a03 a10 a11 a12 a13 a20 a21 a22 a23 a30 a31 a32 a33 * 0 := by
  unfold D4 D3 D2
  grind
theorem adj4l31 (a00 a01 a02 a03 a10 a11 a12 a13 a20 a21 a22 a23 a30 a31 a32 a33 : Int) : a30 * (-D3 a01 a02 a03 a21 a22 a23 a31 a32 a33) + (a31 * (D3 a00 a02 a03 a20 a22 a23 a30 a32 a33) + (a32 * (-D3 a00 a01 a03 a20 a21 a23 a30 a31 a33) + (a33 * (D3 a00 a01 a02 a20 a21 a22 a30 a31 a32) + 0))) = D4 a00 a01 a02 a03 a10 a11 a12 a13 a20 a21 a22 a23 a30 a31 a32 a33 * 0 := by
  unfold D4 D3 D2
  grind
theorem adj4l32 (a00 a01 a02 a03 a10 a11 a12 a13 a20 a21 a22 a23 a30 a31 a32 a33 : Int) : a30 * (D3 a01 a02 a03 a11 a12 a13 a31 a32 a33) + (a31 * (-D3 a00 a02 a03 a10 a12 a13 a30 a32 a33) + (a32 * (D3 a00 a01 a03 a10 a11 a13 a30 a31 a33) + (a33 * (-D3 a00 a01 a02 a10 a11 a12 a30 a31 a32) + 0))) = D4 a00 a01 a02 a03 a10 a11 a12 a13 a20 a21 a22 a23 a30 a31 a32 a33 * 0 := by
  unfold D4 D3 D2
  grind
theorem adj4l33 (a00 a01 a02 a03 a10 a11 a12 a13 a20 a21 a22 a23 a30 a31 a32 a33 : Int) : a30 * (-D3 a01 a02 a03 a11 a12 a13 a21 a22 a23) + (a31 * (D3 a00 a02 a03 a10 a12 a13 a20 a22 a23) + (a32 * (-D3 a00 a01 a03 a10 a11 a13 a20 a21 a23) + (a33 * (D3 a00 a01 a02 a10 a11 a12 a20 a21 a22) + 0))) = D4 a00 a01 a02 a03 a10 a11 a12 a13 a20 a21 a22 a23 a30 a31 a32 a33 * 1 := by
  unfold D4 D3 D2
  grind
theorem adj4r00 (a00 a01 a02 a03 a10 a11 a12 a13 a20 a21 a22 a23 a30 a31 a32 a33 : Int) : (D3 a11 a12 a13 a21 a22 a23 a31 a32 a33) * a00 + ((-D3 a01 a02 a03 a21 a22 a23 a31 a32 a33) * a10 + ((D3 a01 a02 a03 a11 a12 a13 a31 a32 a33) * a20 + ((-D3 a01 a02 a03 a11 a12 a13 a21 a22 a23) * a30 + 0))) = D4 a00 a01 a02 a03 a10 a11 a12 a13 a20 a21 a22 a23 a30 a31 a32 a33 * 1 := by
  unfold D4 D3 D2
  grind
theorem adj4r01 (a00 a01 a02 a03 a10 a11 a12 a13 a20 a21 a22 a23 a30 a31 a32 a33 : Int) : (D3 a11 a12 a13 a21 a22 a23 a31 a32 a33) * a01 + ((-D3 a01 a02 a03 a21 a22 a23 a31 a32 a33) * a11 + ((D3 a01 a02 a03 a11 a12 a13 a31 a32 a33) * a21 + ((-D3 a01 a02 a03 a11 a12 a13 a21 a22 a23) * a31 + 0))) = D4 a00 a01 a02 a03 a10 a11 a12 a13 a20 a21 a22 a23 a30 a31 a32 a33 * 0 := by
  unfold D4 D3 D2
  grind
theorem adj4r02 (a00 a01 a02 a03 a10 a11 a12 a13 a20 a21 a22 a23 a30 a31 a32 a33 : Int) : (D3 a11 a12 a13 a21 a22 a23 a31 a32 a33) * a02 + ((-D3 a01 a02 a03 a21 a22 a23 a31 a32 a33) * a12 + ((D3 a01 a02 a03 a11 a12 a13 a31 a32 a33) * a22 + ((-D3 a01 a02 a03 a11 a12 a13 a21 a22 a23) * a32 + 0))) = D4 a00 a01 a02 a03 a10 a11 a12 a13 a20 a21 a22 a23 a30 a31 a32 a33 * 0 := by
  unfold D4 D3 D2
  grind
theorem adj4r03 (a00 a01 a02 a03 a10 a11 a12 a13 a20 a21 a22 a23 a30 a31 a32 a33 : Int) : (D3 a11 a12 a13 a21 a22 a23 a31 a32 a33) * a03 + ((-D3 a01 a02 a03 a21 a22 a23 a31 a32 a33) * a13 + ((D3 a01 a02 a03 a11 a12 a13 a31 a32 a33) * a23 + ((-D3 a01 a02 a03 a11 a12 a13 a21 a22 a23) * a33 + 0))) = D4 a00 a01 a02 a03 a10 a11 a12 a13 a20 a21 a22 a23 a30 a31 a32 a33 * 0 := by
  unfold D4 D3 D2
  grind
theorem adj4r10 (a00 a01 a02 a03 a10 a11 a12 a13 a20 a21 a22 a23 a30 a31 a32 a33 : Int) : (-D3 a10 a12 a13 a20 a22 a23 a30 a32 a33) * a00 + ((D3 a00 a02 a03 a20 a22 a23 a30 a32 a33) * a10 + ((-D3 a00 a02 a03 a10 a12 a13 a30 a32 a33) * a20 + ((D3 a00 a02 a03 a10 a12 a13 a20 a22 a23) * a30 + 0))) = D4 a00 a01 a02 a03 a10 a11 a12 a13 a20 a21 a22 a23 a30 a31 a32 a33 * 0 := by
  unfold D4 D3 D2
  grind
theorem adj4r11 (a00 a01 a02 a03 a10 a11 a12 a13 a20 a21 a22 a23 a30 a31 a32 a33 : Int) : (-D3 a10 a12 a13 a20 a22 a23 a30 a32 a33) * a01 + ((D3 a00 a02 a03 a20 a22 a23 a30 a32 a33) * a11 + ((-D3 a00 a02 a03 a10 a12 a13 a30 a32 a33) * a21 + ((D3 a00 a02 a03 a10 a12 a13 a20 a22 a23) * a31 + 0))) = D4 a00 a01 a02 a03 a10 a11 a12 a13 a20 a21 a22 a23 a30 a31 a32 a33 * 1 := by
  unfold D4 D3 D2
  grind
theorem adj4r12 (a00 a01 a02 a03 a10 a11 a12 a13 a20 a21 a22 a23 a30 a31 a32 a33 : Int) : (-D3 a10 a12 a13 a20 a22 a23 a30 a32 a33) * a02 + ((D3 a00 a02 a03 a20 a22 a23 a30 a32 a33) * a12 + ((-D3 a00 a02 a03 a10 a12 a13 a30 a32 a33) * a22 + ((D3 a00 a02 a03 a10 a12 a13 a20 a22 a23) * a32 + 0))) = D4 a00 a01 a02 a03 a10 a11 a12 a13 a20 a21 a22 a23 a30 a31 a32 a33 * 0 := by
  unfold D4 D3 D2
  grind
theorem adj4r13 (a00 a01 a02 a03 a10 a11 a12 a13 a20 a21 a22 a23 a30 a31 a32 a33 : Int) : (-D3 a10 a12 a13 a20 a22 a23 a30 a32 a33) * a03 + ((D3 a00 a02 a03 a20 a22 a23 a30 a32 a33) * a13 + ((-D3 a00 a02 a03 a10 a12 a13 a30 a32 a33) * a23 + ((D3 a00 a02 a03 a10 a12 a13 a20 a22 a23) * a33 + 0))) = D4 a00 a01 a02 a03 a10 a11 a12 a13 a20 a21 a22 a23 a30 a31 a32 a33 * 0 := by
  unfold D4 D3 D2
  grind
theorem adj4r20 (a00 a01 a02 a03 a10 a11 a12 a13 a20 a21 a22 a23 a30 a31 a32 a33 : Int) : (D3 a10 a11 a13 a20 a21 a23 a30 a31 a33) * a00 + ((-D3 a00 a01 a03 a20 a21 a23 a30 a31 a33) * a10 + ((D3 a00 a01 a03 a10 a11 a13 a30 a31 a33) * a20 + ((-D3 a00 a01 a03 a10 a11 a13 a20 a21 a23) * a30 + 0))) = D4 a00 a01 a02 a03 a10 a11 a12 a13 a20 a21 a22 a23 a30 a31 a32 a33 * 0 := by
  unfold D4 D3 D2
  grind
theorem adj4r21 (a00 a01 a02 a03 a10 a11 a12 a13 a20 a21 a22 a23 a30 a31 a32 a33 : Int) : (D3 a10 a11 a13 a20 a21 a23 a30 a31 a33) * a01 + ((-D3 a00 a01 a03 a20 a21 a23 a30 a31 a33) * a11 + ((D3 a00 a01 a03 a10 a11 a13 a30 a31 a33) * a21 + ((-D3 a00 a01 a03 a10 a11 a13 a20 a21 a23) * a31 + 0))) = D4 a00 a01 a02 a03 a10 a11 a12 a13 a20 a21 a22 a23 a30 a31 a32 a33 * 0 := by
  unfold D4 D3 D2
  grind
theorem adj4r22 (a00 a01 a02 a03 a10 a11 a12 a13 a20 a21 a22 a23 a30 a31 a32 a33 : Int) : (D3 a10 a11 a13 a20 a21 a23 a30 a31 a33) * a02 + ((-D3 a00 a01 a03 a20 a21 a23 a30 a31 a33) * a12 + ((D3 a00 a01 a03 a10 a11 a13 a30 a31 a33) * a22 + ((-D3 a00 a01 a03 a10 a11 a13 a20 a21 a23) * a32 + 0))) = D4 a00 a01 a02 a03 a10 a11 a12 a13 a20 a21 a22 a23 a30 a31 a32 a33 * 1 := by
  unfold D4 D3 D2
  grind
theorem adj4r23 (a00 a01 a02 a03 a10 a11 a12 a13 a20 a21 a22 a23 a30 a31 a32 a33 : Int) : (D3 a10 a11 a13 a20 a21 a23 a30 a31 a33) * a03 + ((-D3 a00 a01 a03 a20 a21 a23 a30 a31 a33) * a13 + ((D3 a00 a01 a03 a10 a11 a13 a30 a31 a33) * a23 + ((-D3 a00 a01 a03 a10 a11 a13 a20 a21 a23) * a33 + 0))) = D4 a00 a01 a02 a03 a10 a11 a12 a13 a20 a21 a22 a23 a30 a31 a32 a33 * 0 := by
  unfold D4 D3 D2
  grind
theorem adj4r30 (a00 a01 a02 a03 a10 a11 a12 a13 a20 a21 a22 a23 a30 a31 a32 a33 : Int) : (-D3 a10 a11 a12 a20 a21 a22 a30 a31 a32) * a00 + ((D3 a00 a01 a02 a20 a21 a22 a30 a31 a32) * a10 + ((-D3 a00 a01 a02 a10 a11 a12 a30 a31 a32) * a20 + ((D3 a00 a01 a02 a10 a11 a12 a20 a21 a22) * a30 + 0))) = D4 a00 a01 a02 a03 a10 a11 a12 a13 a20 a21 a22 a23 a30 a31 a32 a33 * 0 := by
  unfold D4 D3 D2
  grind
theorem adj4r31 (a00 a01 a02 a03 a10 a11 a12 a13 a20 a21 a22 a23 a30 a31 a32 a33 : Int) : (-D3 a10 a11 a12 a20 a21 a22 a30 a31 a32) * a01 + ((D3 a00 a01 a02 a20 a21 a22 a30 a31 a32) * a11 + ((-D3 a00 a01 a02 a10 a11 a12 a30 a31 a32) * a21 + ((D3 a00 a01 a02 a10 a11 a12 a20 a21 a22) * a31 + 0))) = D4 a00 a01 a02 a03 a10 a11 a12 a13 a20 a21 a22 a23 a30 a31 a32 a33 * 0 := by
  unfold D4 D3 D2
  grind
theorem adj4r32 (a00 a01 a02 a03 a10 a11 a12 a13 a20 a21 a22 a23 a30 a31 a32 a33 : Int) : (-D3 a10 a11 a12 a20 a21 a22 a30 a31 a32) * a02 + ((D3 a00 a01 a02 a20 a21 a22 a30 a31 a32) * a12 + ((-D3 a00 a01 a02 a10 a11 a12 a30 a31 a32) * a22 + ((D3 a00 a01 a02 a10 a11 a12 a20 a21 a22) * a32 + 0))) = D4 a00 a01 a02 a03 a10 a11 a12 a13 a20 a21 a22 a23 a30 a31 a32 a33 * 0 := by
  unfold D4 D3 D2
  grind
theorem adj4r33 (a00 a01 a02 a03 a10 a11 a12 a13 a20 a21 a22 a23 a30 a31 a32 a33 : Int) : (-D3 a10 a11 a12 a20 a21 a22 a30 a31 a32) * a03 + ((D3 a00 a01 a02 a20 a21 a22 a30 a31 a32) * a13 + ((-D3 a00 a01 a02 a10 a11 a12 a30 a31 a32) * a23 + ((D3 a00 a01 a02 a10 a11 a12 a20 a21 a22) * a33 + 0))) = D4 a00 a01 a02 a03 a10 a11 a12 a13 a20 a21 a22 a23 a30 a31 a32 a33 * 1 := by
  unfold D4 D3 D2
  grind
theorem scal_eq4 (d : Int) : scalM 4 d = [[d * 1, d * 0, d * 0, d * 0], [d * 0, d * 1, d * 0, d * 0], [d * 0, d * 0, d * 1, d * 0], [d * 0, d * 0, d * 0, d * 1]] := rfl
theorem adjM4l (a00 a01 a02 a03 a10 a11 a12 a13 a20 a21 a22 a23 a30 a31 a32 a33 : Int) : mulM [[a00, a01, a02, a03], [a10, a11, a12, a13], [a20, a21, a22, a23], [a30, a31, a32, a33]] [[D3 a11 a12 a13 a21 a22 a23 a31 a32 a33, -D3 a01 a02 a03 a21 a22 a23 a31 a32 a33, D3 a01 a02 a03 a11 a12 a13 a31 a32 a33, -D3 a01 a02 a03 a11 a12 a13 a21 a22 a23], [-D3 a10 a12 a13 a20 a22 a23 a30 a32 a33, D3 a00 a02 a03 a20 a22 a23 a30 a32 a33, -D3 a00 a02 a03 a10 a12 a13 a30 a32 a33, D3 a00 a02 a03 a10 a12 a13 a20 a22 a23], [D3 a10 a11 a13 a20 a21 a23 a30 a31 a33, -D3 a00 a01 a03 a20 a21 a23 a30 a31 a33, D3 a00 a01 a03 a10 a11 a13 a30 a31 a33, -D3 a00 a01 a03 a10 a11 a13 a20 a21 a23], [-D3 a10 a11 a12 a20 a21 a22 a30 a31 a32, D3 a00 a01 a02 a20 a21 a22 a30 a31 a32, -D3 a00 a01 a02 a10 a11 a12 a30 a31 a32, D3 a00 a01 a02 a10 a11 a12 a20 a21 a22]] 4 = scalM 4 (D4 a00 a01 a02 a03 a10 a11 a12 a13 a20 a21 a22 a23 a30 a31 a32 a33) := by
  show [[a00 * (D3 a11 a12 a13 a21 a22 a23 a31 a32 a33) + (a01 * (-D3 a10 a12 a13 a20 a22 a23 a30 a32 a33) + (a02 * (D3 a10 a11 a13 a20 a21 a23 a30 a31 a33) + (a03 * (-D3 a10 a11 a12 a20 a21 a22 a30 a31 a32) + 0))), a00 * (-D3 a01 a02 a03 a21 a22 a23 a31 a32 a33) + (a01 * (D3 a00 a02 a03 a20 a22 a23 a30 a32 a33) + (a02 * (-D3 a00 a01 a03 a20 a21 a23 a30 a31 a33) + (a03 * (D3 a00 a01 a02 a20 a21 a22 a30 a31 a32) + 0))), a00 * (D3 a01 a02 a03 a11 a12 a13 a31 a32 a33) + (a01 * (-D3 a00 a02 a03 a10 a12 a13 a30 a32 a33) + (a02 * (D3 a00 a01 a03 a10 a11 a13 a30 a31 a33) + (a03 * (-D3 a00 a01 a02 a10 a11 a12 a30 a31 a32) + 0))), a00 * (-D3 a01 a02 a03 a11 a12 a13 a21 a22 a23) + (a01 * (D3 a00 a02 a03 a10 a12 a13 a20 a22 a23) + (a02 * (-D3 a00 a01 a03 a10 a11 a13 a20 a21 a23) + (a03 * (D3 a00 a01 a02 a10 a11 a12 a20 a21 a22) + 0)))], [a10 * (D3 a11 a12 a13 a21 a22 a23 a31 a32 a33) + (a11 * (-D3 a10 a12 a13 a20 a22 a23 a30 a32 a33) + (a12 * (D3 a10 a11 a13 a20 a21 a23 a30 a31 a33) + (a13 * (-D3 a10 a11 a12 a20 a21 a22 a30 a31 a32) + 0))), a10 * (-D3 a01 a02 a03 a21 a22 a23 a31 a32 a33) + (a11 * (D3 a00 a02 a03 a20 a22 a23 a30 a32 a33) + (a12 * (-D3 a00 a01 a03 a20 a21 a23 a30 a31 a33) + (a13 * (D3 a00 a01 a02 a20 a21 a22 a30 a31 a32) + 0))), a10 * (D3 a01 a02 a03 a11 a12 a13 a31 a32 a33) + (a11 * (-D3 a00 a02 a03 a10 a12 a13 a30 a32 a33) + (a12 * (D3 a00 a01 a03 a10 a11 a13 a30 a31 a33) + (a13 * (-D3 a00 a01 a02 a10 a11 a12 a30 a31 a32) + 0))), a10 * (-D3 a01 a02 a03 a11 a12 a13 a21 a22 a23) + (a11 * (D3 a00 a02 a03 a10 a12 a13 a20 a22 a23) + (a12 * (-D3 a00 a01 a03 a10 a11 a13 a20 a21 a23) + (a13 * (D3 a00 a01 a02 a10 a11 a12 a20 a21 a22) + 0)))], [a20 * (D3 a11 a12 a13 a21 a22 a23 a31 a32 a33) + (a21 * (-D3 a10 a12 a13 a20 a22 a23 a30 a32 a33) + (a22 * (D3 a10 a11 a13 a20 a21 a23 a30 a31 a33) + (a23 * (-D3 a10 a11 a12 a20 a21 a22 a30 a31 a32) + 0))), a20 * (-D3 a01 a02 a03 a21 a22 a23 a31 a32 a33) + (a21 * (D3 a00 a02 a03 a20 a22 a23 a30 a32 a33) + (a22 * (-D3 a00 a01 a03 a20 a21 a23 a30 a31 a33) + (a23 * (D3 a00 a01 a02 a20 a21 a22 a30 a31 a32) + 0))), a20 * (D3 a01 a02 a03 a11 a12 a13 a31 a32 a33) + (a21 * (-D3 a00 a02 a03 a10 a12 a13 a30 a32 a33) + (a22 * (D3 a00 a01 a03 a10 a11 a13 a30 a31 a33) + (a23 * (-D3 a00 a01 a02 a10 a11 a12 a30 a31 a32) + 0))), a20 * (-D3 a01 a02 a03 a11 a12 a13 a21 a22 a23) + (a21 * (D3 a00 a02 a03 a10 a12 a13 a20 a22 a23) + (a22 * (-D3 a00 a01 a03 a10 a11 a13 a20 a21 a23) + (a23 * (D3 a00 a01 a02 a10 a11 a12 a20 a21 a22) + 0)))], [a30 * (D3 a11 a12 a13 a21 a22 a23 a31 a32 a33) + (a31 * (-D3 a10 a12 a13 a20 a22 a23 a30 a32 a33) + (a32 * (D3 a10 a11 a13 a20 a21 a23 a30 a31 a33) + (a33 * (-D3 a10 a11 a12 a20 a21 a22 a30 a31 a32) + 0))), a30 * (-D3 a01 a02 a03 a21 a22 a23 a31 a32 a33) + (a31 * (D3 a00 a02 a03 a20 a22 a23 a30 a32 a33) + (a32 * (-D3 a00 a01 a03 a20 a21 a23 a30 a31 a33) + (a33 * (D3 a00 a01 a02 a20 a21 a22 a30 a31 a32) + 0))), a30 * (D3 a01 a02 a03 a11 a12 a13 a31 a32 a33) + (a31 * (-D3 a00 a02 a03 a10 a12 a13 a30 a32 a33) + (a32 * (D3 a00 a01 a03 a10 a11 a13 a30 a31 a33) + (a33 * (-D3 a00 a01 a02 a10 a11 a12 a30 a31 a32) + 0))), a30 * (-D3 a01 a02 a03 a11 a12 a13 a21 a22 a23) + (a31 * (D3 a00 a02 a03 a10 a12 a13 a20 a22 a23) + (a32 * (-D3 a00 a01 a03 a10 a11 a13 a20 a21 a23) + (a33 * (D3 a00 a01 a02 a10 a11 a12 a20 a21 a22) + 0)))]] = _
  rw [scal_eq4]
  rw [adj4l00 a00 a01 a02 a03 a10 a11 a12 a13 a20 a21 a22 a23 a30 a31 a32 a33, adj4l01 a00 a01 a02 a03 a10 a11 a12 a13 a20 a21 a22 a23 a30 a31 a32 a33, adj4l02 a00 a01 a02 a03 a10 a11 a12 a13 a20 a21 a22 a23 a30 a31 a32 a33, adj4l03 a00 a01 a02 a03 a10 a11 a12 a13 a20 a21 a22 a23 a30 a31 a32 a33, adj4l10 a00 a01 a02 a03 a10 a11 a12 a13 a20 a21 a22 a23 a30 a31 a32 a33, adj4l11 a00 a01 a02 a03 a10 a11 a12 a13 a20 a21 a22 a23 a30 a31 a32 a33, adj4l12 a00 a01 a02 a03 a10 a11 a12 a13 a20 a21 a22 a23 a30 a31 a32 a33, adj4l13 a00 a01 a02 a03 a10 a11 a12 a13 a20 a21 a22 a23 a30 a31 a32 a33, adj4l20 a00 a01 a02 a03 a10 a11 a12 a13 a20 a21 a22 a23 a30 a31 a32 a33, adj4l21 a00 a01 a02 a03 a10 a11 a12 a13 a20 a21 a22 a23 a30 a31 a32 a33, adj4l22 a00 a01 a02 a03 a10 a11 a12 a13 a20 a21 a22 a23 a30 a31 a32 a33, adj4l23 a00 a01 a02 a03 a10 a11 a12 a13 a20 a21 a22 a23 a30 a31 a32 a33, adj4l30 a00 a01 a02 a03 a10 a11 a12 a13 a20 a21 a22 a23 a30 a31 a32 a33, adj4l31 a00 a01 a02 a03 a10 a11 a12 a13 a20 a21 a22 a23 a30 a31 a32 a33, adj4l32 a00 a01 a02 a03 a10 a11 a12 a13 a20 a21 a22 a23 a30 a31 a32 a33, adj4l33 a00 a01 a02 a03 a10 a11 a12 a13 a20 a21 a22 a23 a30 a31 a32 a33]
theorem adjM4r (a00 a01 a02 a03 a10 a11 a12 a13 a20 a21 a22 a23 a30 a31 a32 a33 : Int) : mulM [[D3 a11 a12 a13 a21 a22 a23 a31 a32 a33, -D3 a01 a02 a03 a21 a22 a23 a31 a32 a33, D3 a01 a02 a03 a11 a12 a13 a31 a32 a33, -D3 a01 a02 a03 a11 a12 a13 a21 a22 a23], [-D3 a10 a12 a13 a20 a22 a23 a30 a32 a33, D3 a00 a02 a03 a20 a22 a23 a30 a32 a33, -D3 a00 a02 a03 a10 a12 a13 a30 a32 a33, D3 a00 a02 a03 a10 a12 a13 a20 a22 a23], [D3 a10 a11 a13 a20 a21 a23 a30 a31 a33, -D3 a00 a01 a03 a20 a21 a23 a30 a31 a33, D3 a00 a01 a03 a10 a11 a13 a30 a31 a33, -D3 a00 a01 a03 a10 a11 a13 a20 a21 a23], [-D3 a10 a11 a12 a20 a21 a22 a30 a31 a32, D3 a00 a01 a02 a20 a21 a22 a30 a31 a32, -D3 a00 a01 a02 a10 a11 a12 a30 a31 a32, D3 a00 a01 a02 a10 a11 a12 a20 a21 a22]] [[a00, a01, a02, a03], [a10, a11, a12, a13], [a20, a21, a22, a23], [a30, a31, a32, a33]] 4 = scalM 4 (D4 a00 a01 a02 a03 a10 a11 a12 a13 a20 a21 a22 a23 a30 a31 a32 a33) := by
  show [[(D3 a11 a12 a13 a21 a22 a23 a31 a32 a33) * a00 + ((-D3 a01 a02 a03 a21 a22 a23 a31 a32 a33) * a10 + ((D3 a01 a02 a03 a11 a12 a13 a31 a32 a33) * a20 + ((-D3 a01 a02 a03 a11 a12 a13 a21 a22 a23) * a30 + 0))), (D3 a11 a12 a13 a21 a22 a23 a31 a32 a33) * a01 + ((-D3 a01 a02 a03 a21 a22 a23 a31 a32 a33) * a11 + ((D3 a01 a02 a03 a11 a12 a13 a31 a32 a33) * a21 + ((-D3 a01 a02 a03 a11 a12 a13 a21 a22 a23) * a31 + 0))), (D3 a11 a12 a13 a21 a22 a23 a31 a32 a33) * a02 + ((-D3 a01 a02 a03 a21 a22 a23 a31 a32 a33) * a12 + ((D3 a01 a02 a03 a11 a12 a13 a31 a32 a33) * a22 + ((-D3 a01 a02 a03 a11 a12 a13 a21 a22 a23) * a32 + 0))), (D3 a11 a12 a13 a21 a22 a23 a31 a32 a33) * a03 + ((-D3 a01 a02 a03 a21 a22 a23 a31 a32 a33) * a13 + ((D3 a01 a02 a03 a11 a12 a13 a31 a32 a33) * a23 + ((-D3 a01 a02 a03 a11 a12 a13 a21 a22 a23) * a33 + 0)))], [(-D3 a10 a12 a13 a20 a22 a23 a30 a32 a33) * a00 + ((D3 a00 a02 a03 a20 a22 a23 a30 a32 a33) * a10 + ((-D3 a00 a02 a03 a10 a12 a13 a30 a32 a33) * a20 + ((D3 a00 a02 a03 a10 a12 a13 a20 a22 a23) * a30 + 0))), (-D3 a10 a12 a13 a20 a22 a23 a30 a32 a33) * a01 + ((D3 a00 a02 a03 a20 a22 a23 a30 a32 a33) * a11 + ((-D3 a00 a02 a03 a10 a12 a13 a30 a32 a33) * a21 + ((D3 a00 a02 a03 a10 a12 a13 a20 a22 a23) * a31 + 0))), (-D3 a10 a12 a13 a20 a22 a23 a30 a32 a33) * a02 + ((D3 a00 a02 a03 a20 a22 a23 a30 a32 a33) * a12 + ((-D3 a00 a02 a03 a10 a12 a13 a30 a32 a33) * a22 + ((D3 a00 a02 a03 a10 a12 a13 a20 a22 a23) * a32 + 0))), (-D3 a10 a12 a13 a20 a22 a23 a30 a32 a33) * a03 + ((D3 a00 a02 a03 a20 a22 a23 a30 a32 a33) * a13 + ((-D3 a00 a02 a03 a10 a12 a13 a30 a32 a33) * a23 + ((D3 a00 a02 a03 a10 a12 a13 a20 a22 a23) * a33 + 0)))], [(D3 a10 a11 a13 a20 a21 a23 a30 a31 a33) * a00 + ((-D3 a00 a01 a03 a20 a21 a23 a30 a31 a33) * a10 + ((D3 a00 a01 a03 a10 a11 a13 a30 a31 a33) * a20 + ((-D3 a00 a01 a03 a10 a11 a13 a20 a21 a23) * a30 + 0))), (D3 a10 a11 a13 a20 a21 a23 a30 a31 a33) * a01 + ((-D3 a00 a01 a03 a20 a21 a23 a30 a31 a33) * a11 + ((D3 a00 a01 a03 a10 a11 a13 a30 a31 a33) * a21 + ((-D3 a00 a01 a03 a10 a11 a13 a20 a21 a23) * a31 + 0))), (D3 a10 a11 a13 a20 a21 a23 a30 a31 a33) * a02 + ((-D3 a00 a01 a03 a20 a21 a23 a30 a31 a33) * a12 + ((D3 a00 a01 a03 a10 a11 a13 a30 a31 a33) * a22 + ((-D3 a00 a01 a03 a10 a11 a13 a20 a21 a23) * a32 + 0))), (D3 a10 a11 a13 a20 a21 a23 a30 a31 a33) * a03 + ((-D3 a00 a01 a03 a20 a21 a23 a30 a31 a33) * a13 + ((D3 a00 a01 a03 a10 a11 a13 a30 a31 a33) * a23 + ((-D3 a00 a01 a03 a10 a11 a13 a20 a21 a23) * a33 + 0)))], [(-D3 a10 a11 a12 a20 a21 a22 a30 a31 a32) * a00 + ((D3 a00 a01 a02 a20 a21 a22 a30 a31 a32) * a10 + ((-D3 a00 a01 a02 a10 a11 a12 a30 a31 a32) * a20 + ((D3 a00 a01 a02 a10 a11 a12 a20 a21 a22) * a30 + 0))), (-D3 a10 a11 a12 a20 a21 a22 a30 a31 a32) * a01 + ((D3 a00 a01 a02 a20 a21 a22 a30 a31 a32) * a11 + ((-D3 a00 a01 a02 a10 a11 a12 a30 a31 a32) * a21 + ((D3 a00 a01 a02 a10 a11 a12 a20 a21 a22) * a31 + 0))), (-D3 a10 a11 a12 a20 a21 a22 a30 a31 a32) * a02 + ((D3 a00 a01 a02 a20 a21 a22 a30 a31 a32) * a12 + ((-D3 a00 a01 a02 a10 a11 a12 a30 a31 a32) * a22 + ((D3 a00 a01 a02 a10 a11 a12 a20 a21 a22) * a32 + 0))), (-D3 a10 a11 a12 a20 a21 a22 a30 a31 a32) * a03 + ((D3 a00 a01 a02 a20 a21 a22 a30 a31 a32) * a13 + ((-D3 a00 a01 a02 a10 a11 a12 a30 a31 a32) * a23 + ((D3 a00 a01 a02 a10 a11 a12 a20 a21 a22) * a33 + 0)))]] = _
  rw [scal_eq4]
  rw [adj4r00 a00 a01 a02 a03 a10 a11 a12 a13 a20 a21 a22 a23 a30 a31 a32 a33, adj4r01 a00 a01 a02 a03 a10 a11 a12 a13 a20 a21 a22 a23 a30 a31 a32 a33, adj4r02 a00 a01 a02 a03 a10 a11 a12 a13 a20 a21 a22 a23 a30 a31 a32 a33, adj4r03 a00 a01 a02 a03 a10 a11 a12 a13 a20 a21 a22 a23 a30 a31 a32 a33, adj4r10 a00 a01 a02 a03 a10 a11 a12 a13 a20 a21 a22 a23 a30 a31 a32 a33, adj4r11 a00 a01 a02 a03 a10 a11 a12 a13 a20 a21 a22 a23 a30 a31 a32 a33, adj4r12 a00 a01 a02 a03 a10 a11 a12 a13 a20 a21 a22 a23 a30 a31 a32 a33, adj4r13 a00 a01 a02 a03 a10 a11 a12 a13 a20 a21 a22 a23 a30 a31 a32 a33, adj4r20 a00 a01 a02 a03 a10 a11 a12 a13 a20 a21 a22 a23 a30 a31 a32 a33, adj4r21 a00 a01 a02 a03 a10 a11 a12 a13 a20 a21 a22 a23 a30 a31 a32 a33, adj4r22 a00 a01 a02 a03 a10 a11 a12 a13 a20 a21 a22 a23 a30 a31 a32 a33, adj4r23 a00 a01 a02 a03 a10 a11 a12 a13 a20 a21 a22 a23 a30 a31 a32 a33, adj4r30 a00 a01 a02 a03 a10 a11 a12 a13 a20 a21 a22 a23 a30 a31 a32 a33, adj4r31 a00 a01 a02 a03 a10 a11 a12 a13 a20 a21 a22 a23 a30 a31 a32 a33, adj4r32 a00 a01 a02 a03 a10 a11 a12 a13 a20 a21 a22 a23 a30 a31 a32 a33, adj4r33 a00 a01 a02 a03 a10 a11 a12 a13 a20 a21 a22 a23 a30 a31 a32 a33]

end
end K06
namespace K06
open PySem PySem.Spec PyProof.Rows L2 Gm
open C8 (Cal Met Mak pe_c pe_mt pe_mt0 pe_mk)
section
variable {P : Program} {w : World} {K : PySem.W.Frag} {mg : Str → Option Value} {base : Heap}
/-! ### what the law wants of determinants -/
theorem sz0 {m : List (List Int)} (h : Sz 0 m) : m = [] := List.eq_nil_of_length_eq_zero h.len
theorem mulM_sz {n : Nat} {a b : List (List Int)} (h : a.length = n) : Sz n (mulM a b n) := ⟨(mulM_len ..).trans h, mulM_row⟩
theorem transp_sz {n : Nat} {m : List (List Int)} (h : m.length = n) : Sz n (transp m n) := ⟨transp_len .., fun r hr => (transp_row r hr).trans h⟩
theorem det_mul {n : Nat} {a b : List (List Int)} (hn : n ≤ 4) (ha : Sz n a) (hb : Sz n b) : detL n (mulM a b n) = detL n a * detL n b := by
  match n, hn, ha, hb with
  | 0, _, _, _ => rfl
  | 1, _, ha, hb =>
    obtain ⟨x, rfl⟩ := sz1 ha
    obtain ⟨y, rfl⟩ := sz1 hb
    show detL 1 [[x * y + 0]] = _
    rw [detL1, detL1, detL1, Int.add_zero]
  | 2, _, ha, hb =>
    obtain ⟨_, _, _, _, rfl⟩ := sz2 ha
    obtain ⟨_, _, _, _, rfl⟩ := sz2 hb
    rw [mul_eq2, detL2, detL2, detL2, mulD2]
  | 3, _, ha, hb =>
    obtain ⟨_, _, _, _, _, _, _, _, _, rfl⟩ := sz3 ha
    obtain ⟨_, _, _, _, _, _, _, _, _, rfl⟩ := sz3 hb
    rw [mul_eq3, detL3, detL3, detL3, mulD3]
  | 4, _, ha, hb =>
    obtain ⟨_, _, _, _, _, _, _, _, _, _, _, _, _, _, _, _, rfl⟩ := sz4 ha
    obtain ⟨_, _, _, _, _, _, _, _, _, _, _, _, _, _, _, _, rfl⟩ := sz4 hb
    rw [mul_eq4, detL4, detL4, detL4, mulD4]
theorem det_tr {n : Nat} {m : List (List Int)} (hn : n ≤ 4) (h : Sz n m) : detL n (transp m n) = detL n m := by
  match n, hn, h with
  | 0, _, _ => rfl
  | 1, _, h =>
    obtain ⟨x, rfl⟩ := sz1 h
    rfl
  | 2, _, h =>
    obtain ⟨_, _, _, _, rfl⟩ := sz2 h
    rw [tr_eq2, detL2, detL2, trD2]
  | 3, _, h =>
    obtain ⟨_, _, _, _, _, _, _, _, _, rfl⟩ := sz3 h
    rw [tr_eq3, detL3, detL3, trD3]
  | 4, _, h =>
    obtain ⟨_, _, _, _, _, _, _, _, _, _, _, _, _, _, _, _, rfl⟩ := sz4 h
    rw [tr_eq4, detL4, detL4, trD4]
theorem mul_due {n : Nat} {m : List (List Int)} (hn : n ≤ 4) (h : Sz n m) : mulM m (dueM n m) n = scalM n (detL n m) := by
  match n, hn, h with
  | 0, _, h =>
    cases sz0 h
    rfl
  | 1, _, h =>
    obtain ⟨x, rfl⟩ := sz1 h
    show [[x * (sgn 0 * 1) + 0]] = [[detL 1 [[x]] * 1]]
    rw [detL1, sgn_even (show 0 % 2 = 0 from rfl), Int.add_zero, Int.one_mul]
  | 2, _, h =>
    obtain ⟨_, _, _, _, rfl⟩ := sz2 h
    rw [due_eq2, detL2, adjM2l]
  | 3, _, h =>
    obtain ⟨_, _, _, _, _, _, _, _, _, rfl⟩ := sz3 h
    rw [due_eq3, detL3, adjM3l]
  | 4, _, h =>
    obtain ⟨_, _, _, _, _, _, _, _, _, _, _, _, _, _, _, _, rfl⟩ := sz4 h
    rw [due_eq4, detL4, adjM4l]
theorem due_mul {n : Nat} {m : List (List Int)} (hn : n ≤ 4) (h : Sz n m) : mulM (dueM n m) m n = scalM n (detL n m) := by
  match n, hn, h with
  | 0, _, h =>
    cases sz0 h
    rfl
  | 1, _, h =>
    obtain ⟨x, rfl⟩ := sz1 h
    show [[(sgn 0 * 1) * x + 0]] = [[detL 1 [[x]] * 1]]
    rw [detL1, sgn_even (show 0 % 2 = 0 from rfl), Int.add_zero, Int.one_mul, Int.one_mul, Int.mul_one]
  | 2, _, h =>
    obtain ⟨_, _, _, _, rfl⟩ := sz2 h
    rw [due_eq2, detL2, adjM2r]
  | 3, _, h =>
    obtain ⟨_, _, _, _, _, _, _, _, _, rfl⟩ := sz3 h
    rw [due_eq3, detL3, adjM3r]
  | 4, _, h =>
    obtain ⟨_, _, _, _, _, _, _, _, _, _, _, _, _, _, _, _, rfl⟩ := sz4 h
    rw [due_eq4, detL4, adjM4r]
theorem due_len (n : Nat) (m : List (List Int)) : (dueM n m).length = n := by
  unfold dueM
  rw [List.length_map, List.length_range]
theorem due_row {n : Nat} {m : List (List Int)} : ∀ r ∈ dueM n m, r.length = n := fun r hr => by
  unfold dueM at hr
  obtain ⟨i, _, rfl⟩ := List.mem_map.mp hr
  rw [List.length_map, List.length_range]

end
end K06
namespace K06
open PySem PySem.Spec PyProof.Rows L2 Gm
open C8 (Cal Met Mak pe_c pe_mt pe_mt0 pe_mk)
section
variable {P : Program} {w : World} {K : PySem.W.Frag} {mg : Str → Option Value} {base : Heap}
theorem nat_le_max {a b : Int} {B : Nat} (ha : a.natAbs < 2 ^ B) (hb : b.natAbs < 2 ^ B) {z : Int} (h : z.natAbs ≤ a.natAbs ∨ z.natAbs ≤ b.natAbs) : z.natAbs < 2 ^ B := by
  rcases h with h | h <;> omega
/-- the state of the division algorithm -/
structure CofI (A B last lu lv g u v : Int) : Prop where
  l0 : 0 < last
  g0 : 0 ≤ g
  el : last = lu * A + lv * B
  eg : g = u * A + v * B
  gc : Nat.gcd last.toNat g.toNat = Nat.gcd A.toNat B.toNat
  bu : (u.natAbs : Int) * last + (lu.natAbs : Int) * g ≤ B
  bl : (lu.natAbs : Int) ≤ B
  cv : (v.natAbs : Int) * last + (lv.natAbs : Int) * g ≤ A
  cl : (lv.natAbs : Int) ≤ A
  mx : last ≤ max A B
  gx : g ≤ max A B
theorem abs_sub_mul (x t y : Int) (ht : 0 ≤ t) : ((x - t * y).natAbs : Int) ≤ (x.natAbs : Int) + t * (y.natAbs : Int) := by
  have h1 := Int.natAbs_sub_le x (t * y)
  rw [Int.natAbs_mul] at h1
  have h2 : ((t.natAbs * y.natAbs : Nat) : Int) = t * (y.natAbs : Int) := by
    rw [Int.natCast_mul]
    rw [show ((t.natAbs : Nat) : Int) = t by omega]
  omega
theorem CofI.step {A B last lu lv g u v : Int} (h : CofI A B last lu lv g u v) (hg : 0 < g) : CofI A B g u v (last - last / g * g) (lu - last / g * u) (lv - last / g * v) := by
  have t0 : 0 ≤ last / g := Int.ediv_nonneg (Int.le_of_lt h.l0) h.g0
  have em := Int.emod_def last g
  have m0 := Int.emod_nonneg last (show g ≠ 0 by omega)
  have m1 := Int.emod_lt_of_pos last hg
  rw [Int.mul_comm] at em
  rw [← em]
  generalize hq : last / g = t at *
  have hl := h.l0
  refine ⟨hg, m0, h.eg, ?_, ?_, ?_, ?_, ?_, ?_, h.gx, by have := h.gx; omega⟩
  · rw [em]
    have e1 := h.el
    have e2 := h.eg
    generalize last % g = r at *
    rw [e1, e2]
    grind
  · rw [← h.gc, Int.emod_def]
    have e3 : (last % g).toNat = last.toNat % g.toNat := by
      obtain ⟨p, hp⟩ : ∃ p : Nat, last = p := ⟨last.toNat, by omega⟩
      obtain ⟨q, hq'⟩ : ∃ q : Nat, g = q := ⟨g.toNat, by omega⟩
      rw [hp, hq', ← Int.natCast_emod]
      rfl
    rw [← Int.emod_def, e3, Nat.gcd_comm g.toNat, ← Nat.gcd_rec, Nat.gcd_comm]
  · have h1 := abs_sub_mul lu t u t0
    have h2 : ((lu - t * u).natAbs : Int) * g ≤ ((lu.natAbs : Int) + t * (u.natAbs : Int)) * g := Int.mul_le_mul_of_nonneg_right h1 h.g0
    have h3 := h.bu
    have h4 : (u.natAbs : Int) * (last % g) = (u.natAbs : Int) * last - t * (u.natAbs : Int) * g := by rw [em]; grind
    rw [h4]
    have h5 : ((lu.natAbs : Int) + t * (u.natAbs : Int)) * g = (lu.natAbs : Int) * g + t * (u.natAbs : Int) * g := by grind
    omega
  · have h3 := h.bu
    have h4 : 0 ≤ (lu.natAbs : Int) * g := Int.mul_nonneg (by omega) h.g0
    have h5 : (u.natAbs : Int) * 1 ≤ (u.natAbs : Int) * last := Int.mul_le_mul_of_nonneg_left (by omega) (by omega)
    omega
  · have h1 := abs_sub_mul lv t v t0
    have h2 : ((lv - t * v).natAbs : Int) * g ≤ ((lv.natAbs : Int) + t * (v.natAbs : Int)) * g := Int.mul_le_mul_of_nonneg_right h1 h.g0
    have h3 := h.cv
    have h4 : (v.natAbs : Int) * (last % g) = (v.natAbs : Int) * last - t * (v.natAbs : Int) * g := by rw [em]; grind
    rw [h4]
    have h5 : ((lv.natAbs : Int) + t * (v.natAbs : Int)) * g = (lv.natAbs : Int) * g + t * (v.natAbs : Int) * g := by grind
    omega
  · have h3 := h.cv
    have h4 : 0 ≤ (lv.natAbs : Int) * g := Int.mul_nonneg (by omega) h.g0
    have h5 : (v.natAbs : Int) * 1 ≤ (v.natAbs : Int) * last := Int.mul_le_mul_of_nonneg_left (by omega) (by omega)
    omega
theorem CofI.start {a b : Int} (ha : a ≠ 0) (hb : b ≠ 0) : CofI a.natAbs b.natAbs b.natAbs 0 1 a.natAbs 1 0 := by
  refine ⟨by omega, by omega, by omega, by omega, ?_, ?_, by show ((0 : Nat) : Int) ≤ _; omega, ?_, by show ((1 : Nat) : Int) ≤ _; omega, by omega, by omega⟩
  · rw [Int.toNat_natCast, Int.toNat_natCast, Nat.gcd_comm]
  · show ((1 : Nat) : Int) * _ + ((0 : Nat) : Int) * _ ≤ _
    omega
  · show ((0 : Nat) : Int) * _ + ((1 : Nat) : Int) * _ ≤ _
    omega
theorem CofI.done {a b last lu lv u v : Int} (h : CofI a.natAbs b.natAbs last lu lv 0 u v) : Cof a b last (if a < 0 then -lu else lu) (if b < 0 then -lv else lv) := by
  have hl := h.l0
  have hg : last.toNat = Nat.gcd a.natAbs b.natAbs := by
    have := h.gc
    rw [show (0 : Int).toNat = 0 from rfl, Nat.gcd_zero_right, Int.toNat_natCast, Int.toNat_natCast] at this
    exact this
  have hl2 : last = ((Nat.gcd a.natAbs b.natAbs : Nat) : Int) := by omega
  refine ⟨hl, ?_, ?_, ?_, ?_, ?_⟩
  · have e := h.el
    have ea : ((a.natAbs : Nat) : Int) = if a < 0 then -a else a := by split <;> omega
    have eb : ((b.natAbs : Nat) : Int) = if b < 0 then -b else b := by split <;> omega
    rw [ea, eb] at e
    rw [e]
    split <;> split <;> grind
  · rw [hl2]
    exact Int.ofNat_dvd_left.mpr (Nat.gcd_dvd_left ..)
  · rw [hl2]
    exact Int.ofNat_dvd_left.mpr (Nat.gcd_dvd_right ..)
  · have := h.bl
    split <;> omega
  · have := h.cl
    split <;> omega
def sp_cofactors (K : PySem.W.Frag) : Sp := fun vs H Q _ => ∃ (a b : Int) (B : Nat), vs = [.int a, .int b] ∧ a ≠ 0 ∧ b ≠ 0 ∧ a.natAbs < 2 ^ B ∧ b.natAbs < 2 ^ B ∧ B ≤ 60000000 ∧ ∀ t g u v H', Same H H' → Cof a b g u v → SqT K H' t [.int g, .int u, .int v] → Q (.ref t) H'
def muC : L2.St → Hp → Nat
  | [_, _, _, _, _, some (.int g), _, _, _], _ => g.toNat
  | _, _ => 0
theorem ok_cofactors (T : Top K mg) (hN : base.NoSeer) (hT : P.given.tree = none) : FnOk P w K mg base CX0 41 T.a_cofactors T.d_cofactors ["a", "b"] (sp_cofactors K) := by
  refine T.F_cofactors.ok sc_cofactors (fun vs H Q E h => ?_) (fun cdv A outer s H vs Q E hr h => ?_)
  · obtain ⟨a, b, B, rfl, _⟩ := h
    rfl
  · obtain ⟨a, b, B, rfl, ha, hb, ba, bb, hB, q⟩ := h
    refine ⟨_, (pss_cons (ps_par3 (i := 2) (j := 3) (l := 4) (by rfl) sc_cofactors.nd rfl rfl rfl (by decide) (by decide) (by decide) rfl rfl rfl (pa_cons (pe_callB (call_abs) (by rfl) T.z_abs (by decide +kernel) (pa_cons (pv 1) pa_nil)) (pa_cons pe_int (pa_cons pe_int pa_nil))) (by rfl))
      (pss_cons (ps_par3 (i := 5) (j := 6) (l := 7) (by rfl) sc_cofactors.nd rfl rfl rfl (by decide) (by decide) (by decide) rfl rfl rfl (pa_cons (pe_callB (call_abs) (by rfl) T.z_abs (by decide +kernel) (pa_cons (pv 0) pa_nil)) (pa_cons pe_int (pa_cons pe_int pa_nil))) (by rfl))
      (pss_cons (ps_while PassesOwn.never (pt_truth (pv 5) (by intro _; rfl))
      (pss_cons (ps_set (i := 8) sc_cofactors.nd rfl (by first | exact .inl rfl | exact .inr rfl) (pe_op (op_fdivQ hN rfl rfl rfl rfl rfl hT (room100 hr (by decide))) (pv 2) (pv 5)))
      (pss_cons (ps_par (i := 2) (j := 5) (by rfl) sc_cofactors.nd rfl rfl (by decide) rfl rfl (pa_cons (pv 5) (pa_cons (pe_op op_sub (pv 2) (pe_op op_mulX (pv 8) (pv 5))) pa_nil)) (by rfl))
      (pss_cons (ps_par (i := 3) (j := 6) (by rfl) sc_cofactors.nd rfl rfl (by decide) rfl rfl (pa_cons (pv 6) (pa_cons (pe_op op_sub (pv 3) (pe_op op_mulX (pv 8) (pv 6))) pa_nil)) (by rfl))
      (pss_one (ps_par (i := 4) (j := 7) (by rfl) sc_cofactors.nd rfl rfl (by decide) rfl rfl (pa_cons (pv 7) (pa_cons (pe_op op_sub (pv 4) (pe_op op_mulX (pv 8) (pv 7))) pa_nil)) (by rfl)))))))
      (pss_one (ps_ret (pe_tup (pa_cons (pv 2) (pa_cons (pe_ifExp (pt_cmpR op_lt (pv 0) pe_int (nomark _)) (pe_un un_neg (pv 3)) (pv 3)) (pa_cons (pe_ifExp (pt_cmpR op_lt (pv 1) pe_int (nomark _)) (pe_un un_neg (pv 4)) (pv 4)) pa_nil))))))))), ?_⟩
    have ab : ∀ z : Int, (if z < 0 then -z else z) = ((z.natAbs : Nat) : Int) := fun z => by split <;> omega
    refine ⟨_, rfl, b, rfl, ?_⟩
    rw [ab]
    refine ⟨_, _, _, rfl, ?_⟩
    refine ⟨_, rfl, a, rfl, ?_⟩
    rw [ab]
    refine ⟨_, _, _, rfl, ?_⟩
    dsimp only
    have nA : (a.natAbs : Int).natAbs < 2 ^ B := by rw [Int.natAbs_natCast]; exact ba
    have nB : (b.natAbs : Int).natAbs < 2 ^ B := by rw [Int.natAbs_natCast]; exact bb
    refine while_by (fun σ H2 => H2 = H ∧ ∃ (last lu lv g u v : Int) (y8 : Option V), σ = [some (.int a), some (.int b), some (.int last), some (.int lu), some (.int lv), some (.int g), some (.int u), some (.int v), y8] ∧ CofI a.natAbs b.natAbs last lu lv g u v) muC ⟨rfl, _, _, _, _, _, _, _, rfl, CofI.start ha hb⟩ ?_ ?_
    · rintro σ H2 ⟨rfl, last, lu, lv, g, u, v, y8, rfl, I⟩
      have l0 := I.l0
      have g0 := I.g0
      have bnd : ∀ z : Int, z.natAbs ≤ a.natAbs ∨ z.natAbs ≤ b.natAbs → z.natAbs < 2 ^ B := fun z hz => by rcases hz with h | h <;> omega
      refine ⟨_, rfl, g != 0, rfl, ?_⟩
      by_cases hg : g = 0
      · subst hg
        refine iteF ?_
        have cf := I.done
        refine ⟨_, rfl, _, rfl, _, _, rfl, rfl, _, rfl, ?_⟩
        by_cases h1 : a < 0
        · rw [if_pos h1] at cf
          rw [decide_eq_true h1]
          refine iteT ?_
          refine ⟨_, rfl, _, rfl, _, rfl, _, _, rfl, rfl, _, rfl, ?_⟩
          by_cases h2 : b < 0
          · rw [if_pos h2] at cf
            rw [decide_eq_true h2]
            refine iteT ?_
            refine ⟨_, rfl, _, rfl, by show 3 ≤ sizeLine; decide, fun t nt => ?_⟩
            exact q t _ _ _ _ (same_upd nt) cf (.inl (.inl upd_same))
          · rw [if_neg h2] at cf
            rw [decide_eq_false h2]
            refine iteF ?_
            refine ⟨_, rfl, by show 3 ≤ sizeLine; decide, fun t nt => ?_⟩
            exact q t _ _ _ _ (same_upd nt) cf (.inl (.inl upd_same))
        · rw [if_neg h1] at cf
          rw [decide_eq_false h1]
          refine iteF ?_
          refine ⟨_, rfl, _, rfl, _, _, rfl, rfl, _, rfl, ?_⟩
          by_cases h2 : b < 0
          · rw [if_pos h2] at cf
            rw [decide_eq_true h2]
            refine iteT ?_
            refine ⟨_, rfl, _, rfl, by show 3 ≤ sizeLine; decide, fun t nt => ?_⟩
            exact q t _ _ _ _ (same_upd nt) cf (.inl (.inl upd_same))
          · rw [if_neg h2] at cf
            rw [decide_eq_false h2]
            refine iteF ?_
            refine ⟨_, rfl, by show 3 ≤ sizeLine; decide, fun t nt => ?_⟩
            exact q t _ _ _ _ (same_upd nt) cf (.inl (.inl upd_same))
      · rw [show (g != 0) = true from bne_iff_ne.mpr hg]
        refine iteT ?_
        have g1 : 0 < g := by omega
        have J := I.step g1
        have mx := I.mx
        have gx := I.gx
        have bg : g.natAbs < 2 ^ B := bnd g (by omega)
        have bt : (last / g).natAbs < 2 ^ B := Nat.lt_of_le_of_lt (Int.natAbs_ediv_le_natAbs _ _) (bnd last (by omega))
        have bu : u.natAbs < 2 ^ B := bnd u (by have := J.bl; omega)
        have bv : v.natAbs < 2 ^ B := bnd v (by have := J.cl; omega)
        refine ⟨_, rfl, _, rfl, last, g, rfl, rfl, hg, ?_⟩
        have ef := Int.fdiv_eq_ediv_of_nonneg last g0
        rw [← ef] at J bt
        refine ⟨_, rfl, _, rfl, _, rfl, _, rfl, _, _, rfl, rfl, mulx_ok bt bg (by omega), _, _, rfl, rfl, _, _, rfl, ?_⟩
        refine ⟨_, rfl, _, rfl, _, rfl, _, rfl, _, _, rfl, rfl, mulx_ok bt bu (by omega), _, _, rfl, rfl, _, _, rfl, ?_⟩
        refine ⟨_, rfl, _, rfl, _, rfl, _, rfl, _, _, rfl, rfl, mulx_ok bt bv (by omega), _, _, rfl, rfl, _, _, rfl, ?_⟩
        refine ⟨⟨rfl, _, _, _, _, _, _, _, rfl, J⟩, ?_⟩
        show (last - last.fdiv g * g).toNat < g.toNat
        rw [ef]
        have em := Int.emod_def last g
        rw [Int.mul_comm] at em
        rw [← em]
        have m0 := Int.emod_nonneg last (show g ≠ 0 by omega)
        have m1 := Int.emod_lt_of_pos last g1
        omega
    · intro σ H Q1 Q2 h1 ⟨v, ev, k, ek, h2⟩
      exact ⟨v, ev, k, ek, h1 _ _ h2⟩
theorem cal_cofactors (T : Top K mg) (hN : base.NoSeer) (hT : P.given.tree = none) : Cal P w K mg base 41 "cofactors" (sp_cofactors K) [] := ⟨⟨_, _, _, [], ok_cofactors T hN hT, T.g_cofactors, T.F_cofactors.kp, T.b_cofactors, .nil⟩⟩

end
end K06
namespace K06
open PySem PySem.Spec PyProof.Rows L2 Gm
open C8 (Cal Met Mak pe_c pe_mt pe_mt0 pe_mk)
section
variable {P : Program} {w : World} {K : PySem.W.Frag} {mg : Str → Option Value} {base : Heap}
theorem cost_bits {c : Nat} {r : List Int} (h : Cost c r) : Bits c r := fun x hx => by have := h x hx; omega
theorem cost_at {c : Nat} {r : List Int} (h : Cost c r) (j : Nat) : (r.getD j 0).natAbs < 2 ^ c := by have := h.at j; omega
theorem TRow.offD {K : PySem.W.Frag} {H H' : Hp} {d : Addr} {kvs : List (Key × V)} {v : V} {r : List Int} (e : H d = some (.dK kvs)) (o : ∀ b x, b ≠ d → H b = some x → H' b = some x) (h : TRow K H v r) : TRow K H' v r := by
  obtain ⟨b, eb, hb⟩ := h
  refine ⟨b, eb, ?_⟩
  rcases hb with (hb | ⟨x, hb⟩) | hb
  · exact .inl (.inl (o _ _ (ne_of hb e (by intro z; cases z)) hb))
  · exact .inl (.inr ⟨x, o _ _ (ne_of hb e (by intro z; cases z)) hb⟩)
  · exact .inr hb
theorem at_getD {r : List Int} {j : Nat} {z : Int} (e : z = (j : Int)) (h : j < r.length) : atI (r.map V.int) z = some (.int (r.getD j 0)) :=
  at_of e (ints_at (by rw [List.getD_eq_getElem?_getD, List.getElem?_eq_getElem h]; rfl))
def sp_mixed (K : PySem.W.Frag) : Sp := fun vs H Q _ => ∃ (a b : Int) (v1 v2 : V) (x y : List Int) (A B C E : Nat), vs = [.int a, v1, .int b, v2] ∧ TRow K H v1 x ∧ TRow K H v2 y ∧ x.length = y.length ∧ x.length ≤ 1000 ∧ a.natAbs < 2 ^ A ∧ Bits B x ∧ b.natAbs < 2 ^ C ∧ Bits E y ∧ A + B ≤ 134217728 ∧ C + E ≤ 134217728 ∧
  ∀ v H', Same H H' → TRow K H' v (mixR a x b y) → Q v H'
theorem ok_mixed (T : Top K mg) (hN : base.NoSeer) (hT : P.given.tree = none) : FnOk P w K mg base CX0 1 T.a_mixed T.d_mixed ["a", "first", "b", "second"] (sp_mixed K) := by
  refine T.F_mixed.ok sc_mixed (fun vs H Q E h => ?_) (fun cdv A outer s H vs Q E hr h => ?_)
  · obtain ⟨a, b, v1, v2, x, y, A, B, C, E, rfl, _⟩ := h
    rfl
  · obtain ⟨a, b, v1, v2, x, y, BA, BB, BC, BE, rfl, ⟨p1, rfl, h1⟩, ⟨p2, rfl, h2⟩, hl, hl2, ba, bx, bb, bY, hAB, hCE, q⟩ := h
    refine ⟨_, (pss_one (ps_ret (pe_callTy (tupK K rfl) (by rfl) T.z_tuple (by decide +kernel) (pa_cons (pe_lc (own := [("x", 4), ("y", 5)]) (g := (gTup K 2 (gCons (gName 4) (gCons (gName 5) gNil)))) (by rfl) sc_mixed.nd (RZ.pi_zipA (by rfl) T.z_zip (pa_cons (pv 1) (pa_cons (pv 3) pa_nil))) ((by show BlkOk ["a", "first", "b", "second", "x", "y"] (defScope s_mixed) _ _; exact blkOk_by (by decide +kernel))) (fun _ _ _ _ _ => (pg_tup rfl (pgs_cons (pg_name (i := 4) sc_mixed.nd rfl (by first | exact .inl rfl | exact .inr rfl)) (pgs_cons (pg_name (i := 5) sc_mixed.nd rfl (by first | exact .inl rfl | exact .inr rfl)) pgs_nil)))) (fun _ _ _ _ _ => pts_nil) (fun _ _ _ _ _ => (pe_op op_add (pe_op op_mulX (pv 0) (pv 4)) (pe_op op_mulX (pv 2) (pv 5))))) pa_nil)))), ?_⟩
    refine ⟨_, rfl, _, rfl, p1, p2, _, _, rfl, .inr ⟨h1, h2, fun D hD => ?_⟩⟩
    have W : Walk (RZ.ItzT K p1 p2) x.length (fun H => SqT K H p1 (x.map V.int) ∧ SqT K H p2 (y.map V.int)) (YPair (fun i => (x.map V.int)[i]?) (fun i => (y.map V.int)[i]?)) := walk_zipT (by rw [List.length_map, List.length_map, hl, Nat.min_self])
    refine lc_all W hD hl2 (fun H4 s4 => ⟨Same.seqT s4 h1, Same.seqT s4 h2⟩) (fun i v _ => ∃ z, (mixR a x b y)[i]? = some z ∧ v = .int z) (fun _ _ _ _ _ _ _ h => h) ?_ gm_pair ?_
    · rintro i z H4 H4' acc Ko hi s4 eD ⟨U, x1, x2, rfl, nU, rfl, e1, e2⟩ k
      obtain ⟨z1, ez1, rfl⟩ := ints_get e1
      obtain ⟨z2, ez2, rfl⟩ := ints_get e2
      refine g_pair nU ⟨rfl, ?_⟩
      refine ⟨_, rfl, _, rfl, _, _, rfl, rfl, mulx_ok ba (bx.at ez1) hAB, ?_⟩
      refine ⟨_, rfl, _, rfl, _, _, rfl, rfl, mulx_ok bb (bY.at ez2) hCE, ?_⟩
      refine ⟨_, _, rfl, rfl, ?_⟩
      refine k _ _ (same_upd nU) ⟨a * z1 + b * z2, ?_, rfl⟩
      unfold mixR
      rw [List.getElem?_zipWith, ez1, ez2]
    · intro H4 l s4 eD hpl
      have el := ints_list (by rw [mixR_len rfl hl.symm]) hpl
      subst el
      refine ⟨D, _, rfl, .inl ⟨.inl (.inl eD), fun t nt => ?_⟩⟩
      exact q _ _ (s4.trans (same_upd nt)) ⟨t, rfl, .inl (.inl upd_same)⟩
theorem cal_mixed (T : Top K mg) (hN : base.NoSeer) (hT : P.given.tree = none) : Cal P w K mg base 1 "mixed" (sp_mixed K) [] := ⟨⟨_, _, _, [], ok_mixed T hN hT, T.g_mixed, T.F_mixed.kp, T.b_mixed, .nil⟩⟩
def sp_merged (K : PySem.W.Frag) : Sp := fun vs H Q _ => ∃ (v1 v2 : V) (t r : List Int) (w j A C : Nat), vs = [v1, v2, .int (0 + (j : Int))] ∧ TRow K H v1 t ∧ TRow K H v2 r ∧ t.length = w ∧ r.length = w ∧ w ≤ 1000 ∧ j < w ∧ t.getD j 0 ≠ 0 ∧ r.getD j 0 ≠ 0 ∧ Cost A t ∧ Cost C r ∧ A ≤ 60000000 ∧ C ≤ 60000000 ∧
  ∀ tp v3 v4 g u v H', Same H H' → Cof (t.getD j 0) (r.getD j 0) g u v → SqT K H' tp [v3, v4] → TRow K H' v3 (mixR u t v r) → TRow K H' v4 (mixR (t.getD j 0 / g) r (-(r.getD j 0 / g)) t) → Q (.ref tp) H'
theorem ok_merged (T : Top K mg) (hN : base.NoSeer) (hT : P.given.tree = none) : FnOk P w K mg base CX0 43 T.a_merged T.d_merged ["top", "row", "column"] (sp_merged K) := by
  refine T.F_merged.ok sc_merged (fun vs H Q E h => ?_) (fun cdv A outer s H vs Q E hr h => ?_)
  · obtain ⟨v1, v2, t, r, w, j, A, C, rfl, _⟩ := h
    rfl
  · obtain ⟨v1, v2, t, r, w, j, CA, CC, rfl, ⟨p1, rfl, h1⟩, ⟨p2, rfl, h2⟩, lt, lr, hw, hj, ht, hrn, ca, cc, hA, hC, q⟩ := h
    refine ⟨_, (pss_cons (ps_asg (pe_c (cal_cofactors T hN hT) hr (by decide) (by rfl) (pa_cons (pe_ix (ixT K rfl) (pv 0) (pv 2) (fun _ _ => rfl)) (pa_cons (pe_ix (ixT K rfl) (pv 1) (pv 2) (fun _ _ => rfl)) pa_nil))) (pg_tup rfl (pgs_cons (pg_name (i := 3) sc_merged.nd rfl (by first | exact .inl rfl | exact .inr rfl)) (pgs_cons (pg_name (i := 4) sc_merged.nd rfl (by first | exact .inl rfl | exact .inr rfl)) (pgs_cons (pg_name (i := 5) sc_merged.nd rfl (by first | exact .inl rfl | exact .inr rfl)) pgs_nil)))))
      (pss_one (ps_ret (pe_tup (pa_cons (pe_c (cal_mixed T hN hT) hr (by decide) (by rfl) (pa_cons (pv 4) (pa_cons (pv 0) (pa_cons (pv 5) (pa_cons (pv 1) pa_nil))))) (pa_cons (pe_c (cal_mixed T hN hT) hr (by decide) (by rfl) (pa_cons (pe_op (op_fdivQ hN rfl rfl rfl rfl rfl hT (room100 hr (by decide))) (pe_ix (ixT K rfl) (pv 0) (pv 2) (fun _ _ => rfl)) (pv 3)) (pa_cons (pv 1) (pa_cons (pe_un un_neg (pe_op (op_fdivQ hN rfl rfl rfl rfl rfl hT (room100 hr (by decide))) (pe_ix (ixT K rfl) (pv 1) (pv 2) (fun _ _ => rfl)) (pv 3))) (pa_cons (pv 0) pa_nil))))) pa_nil)))))), ?_⟩
    have a1 := cost_at ca j
    have a2 := cost_at cc j
    have up : ∀ {z : Int}, z.natAbs < 2 ^ CA ∨ z.natAbs < 2 ^ CC → z.natAbs < 2 ^ (max CA CC) := fun {z} h => by
      rcases h with h | h
      · exact Nat.lt_of_lt_of_le h (Nat.pow_le_pow_right (by decide) (Nat.le_max_left ..))
      · exact Nat.lt_of_lt_of_le h (Nat.pow_le_pow_right (by decide) (Nat.le_max_right ..))
    refine ⟨_, rfl, _, rfl, p1, _, _, _, rfl, rfl, h1, at_getD (j := j) (by omega) (by omega), _, rfl, _, rfl, p2, _, _, _, rfl, rfl, h2, at_getD (j := j) (by omega) (by omega), t.getD j 0, r.getD j 0, max CA CC, rfl, ht, hrn, up (.inl a1), up (.inr a2), by omega, fun tc g u v H1 s1 cf hc => ?_⟩
    refine ⟨tc, _, rfl, hc, rfl, _, _, rfl, _, _, rfl, _, _, rfl, rfl, ?_⟩
    have g0 := cf.pos
    have h1' := Same.seqT s1 h1
    have h2' := Same.seqT s1 h2
    have ub := cf.ub
    have vb := cf.vb
    refine ⟨_, rfl, _, rfl, _, rfl, _, rfl, u, v, .ref p1, .ref p2, t, r, CC, CA, CA, CC, rfl, ⟨p1, rfl, h1'⟩, ⟨p2, rfl, h2'⟩, by omega, by omega, by omega, cost_bits ca, by omega, cost_bits cc, by omega, by omega, fun v3 H2 s2 h3 => ?_⟩
    have h12 := Same.seqT s2 h1'
    have h22 := Same.seqT s2 h2'
    refine ⟨_, rfl, _, rfl, p1, _, _, _, rfl, rfl, h12, at_getD (j := j) (by omega) (by omega), _, rfl, _, _, rfl, rfl, by omega, ?_⟩
    have e1 := Int.fdiv_eq_ediv_of_nonneg (t.getD j 0) (Int.le_of_lt g0)
    have e2 := Int.fdiv_eq_ediv_of_nonneg (r.getD j 0) (Int.le_of_lt g0)
    have b1 : ((t.getD j 0).fdiv g).natAbs < 2 ^ CA := by rw [e1]; exact Nat.lt_of_le_of_lt (Int.natAbs_ediv_le_natAbs _ _) a1
    have b2 : (-((r.getD j 0).fdiv g)).natAbs < 2 ^ CC := by rw [e2, Int.natAbs_neg]; exact Nat.lt_of_le_of_lt (Int.natAbs_ediv_le_natAbs _ _) a2
    refine ⟨_, rfl, _, rfl, _, rfl, p2, _, _, _, rfl, rfl, h22, at_getD (j := j) (by omega) (by omega), _, rfl, _, _, rfl, rfl, by omega, _, rfl, ?_⟩
    refine ⟨_, rfl, _, _, .ref p2, .ref p1, r, t, CA, CC, CC, CA, rfl, ⟨p2, rfl, h22⟩, ⟨p1, rfl, h12⟩, by omega, by omega, b1, cost_bits cc, b2, cost_bits ca, by omega, by omega, fun v4 H3 s3 h4 => ?_⟩
    refine ⟨by show 2 ≤ sizeLine; decide, fun tp ntp => ?_⟩
    have s4 := same_upd (o := .tup [v3, v4]) ntp
    rw [e1, e2] at h4
    exact q tp v3 v4 g u v _ (s1.trans (s2.trans (s3.trans s4))) cf (.inl (.inl upd_same)) (TRow.same (s3.trans s4) h3) (TRow.same s4 h4)
theorem cal_merged (T : Top K mg) (hN : base.NoSeer) (hT : P.given.tree = none) : Cal P w K mg base 43 "merged" (sp_merged K) [] := ⟨⟨_, _, _, [], ok_merged T hN hT, T.g_merged, T.F_merged.kp, T.b_merged, .nil⟩⟩
def CostL : Tops → List Nat → Prop
  | [], cs => cs = []
  | p :: T, c :: cs => Cost c p.2 ∧ CostL T cs
  | _ :: _, [] => False
def sp_reduced (K : PySem.W.Frag) : Sp := fun vs H Q _ => ∃ (v : V) (a : Addr) (row : List Int) (T : Tops) (w ρ : Nat) (cs : List Nat), vs = [v, .ref a] ∧ TRow K H v row ∧ DT K H a T ∧ Ech w T ∧ row.length = w ∧ w ≤ 1000 ∧ T.length ≤ 10 ∧ Cost ρ row ∧ CostL T cs ∧ ρ + cs.sum ≤ 134217728 ∧ ∀ v' H', Same H H' → TRow K H' v' (redT T row) → Q v' H'
theorem CostL.split {T : Tops} : ∀ {cs : List Nat} {i : Nat} {p : Nat × List Int}, CostL T cs → T[i]? = some p → ∃ c, cs[i]? = some c ∧ Cost c p.2 := by
  induction T with
  | nil => intro cs i p _ h; simp at h
  | cons q T ih =>
    intro cs i p hc h
    match cs, i, hc, h with
    | c :: cs, 0, hc, h =>
      obtain rfl : q = p := by simpa using h
      exact ⟨c, rfl, hc.1⟩
    | c :: cs, i + 1, hc, h =>
      obtain ⟨c', e, k⟩ := ih (cs := cs) (i := i) hc.2 (by simpa using h)
      exact ⟨c', by simpa using e, k⟩
theorem CostL.len : ∀ {T : Tops} {cs : List Nat}, CostL T cs → cs.length = T.length
  | [], cs, h => by rw [show cs = [] from h]; rfl
  | p :: T, c :: cs, h => by rw [List.length_cons, List.length_cons, CostL.len h.2]
theorem sum_take_le (cs : List Nat) : ∀ i, (cs.take i).sum ≤ cs.sum := by
  induction cs with
  | nil => intro i; simp
  | cons c cs ih =>
    intro i
    cases i with
    | zero => simp
    | succ i => have := ih i; simp only [List.take_succ_cons, List.sum_cons]; omega
theorem redT_take {T : Tops} {row : List Int} {i : Nat} {p : Nat × List Int} (h : T[i]? = some p) : redT (T.take (i + 1)) row = red1 p (redT (T.take i) row) := by
  rw [List.take_add_one, h, redT_app]
  rfl
theorem ok_reduced (T : Top K mg) (hN : base.NoSeer) (hT : P.given.tree = none) : FnOk P w K mg base CX0 41 T.a_reduced T.d_reduced ["row", "tops"] (sp_reduced K) := by
  refine T.F_reduced.ok sc_reduced (fun vs H Q E h => ?_) (fun cdv A outer s H vs Q E hr h => ?_)
  · obtain ⟨v, a, row, TT, w, ρ, cs, rfl, _⟩ := h
    rfl
  · obtain ⟨v, a, row, TT, w, ρ, cs, rfl, hv, hd, ech, lr, hw, lT, cr, cl, hB, q⟩ := h
    have lcs := cl.len
    refine ⟨_, (pss_cons (ps_for PassesOwn.never rfl (piS K rfl (pe_callB (call_sortedDI rfl) (by rfl) T.z_sorted (by decide +kernel) (pa_cons (pv 1) pa_nil))) (pg_name (i := 2) sc_reduced.nd rfl (by first | exact .inl rfl | exact .inr rfl))
      (pss_cons (ps_set (i := 3) sc_reduced.nd rfl (by first | exact .inl rfl | exact .inr rfl) (pe_dget (hu_of hr) (pv 1) (pv 2) (fun _ _ => rfl)))
      (pss_cons (ps_set (i := 4) sc_reduced.nd rfl (by first | exact .inl rfl | exact .inr rfl) (pe_op (op_fdivQ hN rfl rfl rfl rfl rfl hT (room100 hr (by decide))) (pe_ix (ixT K rfl) (pv 0) (pv 2) (fun _ _ => rfl)) (pe_ix (ixT K rfl) (pv 3) (pv 2) (fun _ _ => rfl))))
      (pss_one (ps_if (pt_cmpR op_ne (pv 4) pe_int (nomark _))
      (pss_one (ps_set (i := 0) sc_reduced.nd rfl (by first | exact .inl rfl | exact .inr rfl) (pe_c (cal_mixed T hN hT) hr (by decide) (by rfl) (pa_cons pe_int (pa_cons (pv 0) (pa_cons (pe_un un_neg (pv 4)) (pa_cons (pv 3) pa_nil)))))))
      pss_nil)))))
      (pss_one (ps_ret (pv 0)))), ?_⟩
    obtain ⟨kvs, ks, hrd, hks, hpk⟩ := hd.keys
    have lks : ks.length = TT.length := by
      have := hpk.length_eq
      unfold colT at this
      rwa [List.length_map] at this
    refine ⟨_, rfl, a, kvs, ks, rfl, hrd, hks, by omega, fun ys p hy ho np => ?_⟩
    have ey := cols_eq ech hpk hy ho
    subst ey
    have s0 := same_upd (o := .lst ((colT TT).map V.int)) np
    have ep : (upd H p (.lst ((colT TT).map V.int))) p = some (.lst ((colT TT).map V.int)) := upd_same
    have hv0 := TRow.same s0 hv
    have hd0 := hd.same s0
    generalize upd H p (.lst ((colT TT).map V.int)) = H0 at s0 ep hv0 hd0 ⊢
    refine ⟨p, _, rfl, .inl (.inl (.inl ep)), fun J G W hG => ?_⟩
    refine for_it W (fun i σ H2 => ∃ (rv : V) (y2 y3 y4 : Option V), σ = [some rv, some (.ref a), y2, y3, y4] ∧ Same H0 H2 ∧ TRow K H2 rv (redT (TT.take i) row) ∧ Cost (ρ + (cs.take i).sum) (redT (TT.take i) row)) ⟨v, none, none, none, rfl, Same.refl _, hv0, cr⟩ (fun i σ H2 _ ⟨_, _, _, _, _, s2, _⟩ => hG _ fun b _ o => s2 b o) ?_ ?_
    · rintro i x σ H2 H2' hi ⟨rv, y2, y3, y4, rfl, s2, hrv, hcr⟩ ⟨rfl, ex⟩
      have hi' : i < TT.length := by
        unfold colT at hi
        rwa [List.length_map, List.length_map] at hi
      have ei := List.getElem?_eq_getElem hi'
      generalize TT[i] = pr at ei
      have hx : x = .int (pr.1 : Int) := by
        unfold colT at ex
        rw [List.getElem?_map, List.getElem?_map, ei] at ex
        exact (Option.some.inj ex).symm
      subst hx
      have hm := List.mem_of_getElem? ei
      have pv := ech.pv _ hm
      obtain ⟨c, ec, hc⟩ := cl.split ei
      have hsum : (cs.take (i + 1)).sum = (cs.take i).sum + c := by
        rw [List.take_add_one, ec, List.sum_append]
        show _ + (c + 0) = _
        rfl
      have hle := sum_take_le cs (i + 1)
      obtain ⟨tv, hget, ⟨pt, rfl, ht⟩⟩ := (hd0.same s2).get hm
      obtain ⟨pr1, rfl, hr1⟩ := hrv
      have lrow : (redT (TT.take i) row).length = w := redT_len (fun q hq => (ech.pv q (List.mem_of_mem_take hq)).len) lr
      refine ⟨_, rfl, _, rfl, a, _, rfl, hget, ?_⟩
      refine ⟨_, rfl, _, rfl, pr1, _, _, _, rfl, rfl, hr1, at_getD (j := pr.1) rfl (by rw [lrow]; exact pv.lt), _, rfl, _, rfl, pt, _, _, _, rfl, rfl, ht, at_getD (j := pr.1) rfl (by rw [pv.len]; exact pv.lt), _, _, rfl, rfl, by have := pv.pos; omega, ?_⟩
      have ef := Int.fdiv_eq_ediv_of_nonneg ((redT (TT.take i) row).getD pr.1 0) (Int.le_of_lt pv.pos)
      refine ⟨_, rfl, rfl, _, rfl, ?_⟩
      have hcost := red1_cost (p := pr) hc hcr pv.pos
      by_cases hq : (redT (TT.take i) row).getD pr.1 0 / pr.2.getD pr.1 0 = 0
      · rw [show (!decide (V.int (((redT (TT.take i) row).getD pr.1 0).fdiv (pr.2.getD pr.1 0)) = V.int 0)) = false by rw [decide_eq_true (by rw [ef, hq])]; rfl]
        refine iteF ?_
        have e1 : red1 pr (redT (TT.take i) row) = redT (TT.take i) row := by
          unfold red1
          rw [if_neg (fun z => z hq)]
        refine ⟨_, _, _, _, rfl, s2, ?_, ?_⟩
        · rw [redT_take ei, e1]
          exact ⟨pr1, rfl, hr1⟩
        · rw [redT_take ei, hsum, e1]
          exact hcr.up (by omega)
      · rw [show (!decide (V.int (((redT (TT.take i) row).getD pr.1 0).fdiv (pr.2.getD pr.1 0)) = V.int 0)) = true by rw [decide_eq_false (fun z => hq (by rw [← ef]; exact V.int.inj z))]; rfl]
        refine iteT ?_
        have bt : (-(((redT (TT.take i) row).getD pr.1 0).fdiv (pr.2.getD pr.1 0))).natAbs < 2 ^ (ρ + (cs.take i).sum) := by
          rw [ef, Int.natAbs_neg]
          exact Nat.lt_of_le_of_lt (Int.natAbs_ediv_le_natAbs _ _) (cost_at hcr _)
        have e1 : red1 pr (redT (TT.take i) row) = mixR 1 (redT (TT.take i) row) (-(((redT (TT.take i) row).getD pr.1 0).fdiv (pr.2.getD pr.1 0))) pr.2 := by
          unfold red1
          rw [if_pos hq, ef]
        refine ⟨_, rfl, _, rfl, _, rfl, _, rfl, 1, _, .ref pr1, .ref pt, _, pr.2, 1, ρ + (cs.take i).sum, ρ + (cs.take i).sum, c, rfl, ⟨pr1, rfl, hr1⟩, ⟨pt, rfl, ht⟩, by rw [lrow, pv.len], by omega, by decide, cost_bits hcr, bt, cost_bits hc, ?_, by omega, fun v3 H3 s3 h3 => ?_⟩
        · have hc1 : 1 ≤ c := by
            rcases Nat.eq_zero_or_pos c with e | e
            · have h1 := hc.at pr.1
              have h2 := pv.pos
              rw [e] at h1
              have h3 : 2 * (pr.2.getD pr.1 0).natAbs < 1 := h1
              omega
            · exact e
          omega
        · rw [← e1] at h3
          refine ⟨_, _, _, _, rfl, s2.trans s3, ?_, ?_⟩
          · rw [redT_take ei]
            exact h3
          · rw [redT_take ei, hsum]
            exact hcost.up (by omega)
    · rintro σ H2 ⟨rv, y2, y3, y4, rfl, s2, hrv, hcr⟩
      have e1 : TT.take ((colT TT).map V.int).length = TT := by
        unfold colT
        rw [List.length_map, List.length_map, List.take_length]
      rw [e1] at hrv
      exact ⟨_, rfl, q _ _ (s0.trans s2) hrv⟩
theorem cal_reduced (T : Top K mg) (hN : base.NoSeer) (hT : P.given.tree = none) : Cal P w K mg base 41 "reduced" (sp_reduced K) [] := ⟨⟨_, _, _, [], ok_reduced T hN hT, T.g_reduced, T.F_reduced.kp, T.b_reduced, .nil⟩⟩

end
end K06
namespace K06
open PySem PySem.Spec PyProof.Rows L2 Gm
open C8 (Cal Met Mak pe_c pe_mt pe_mt0 pe_mk)
section
variable {P : Program} {w : World} {K : PySem.W.Frag} {mg : Str → Option Value} {base : Heap}
theorem drop_cons {α : Type} {T : List α} {i : Nat} {p : α} (h : T[i]? = some p) : T.drop i = p :: T.drop (i + 1) := by
  obtain ⟨hi, e⟩ := List.getElem?_eq_some_iff.mp h
  rw [← e, List.drop_eq_getElem_cons hi]
theorem ech_drop {w : Nat} {T : Tops} (h : Ech w T) (i : Nat) : Ech w (T.drop i) := ⟨h.asc.sublist (List.drop_sublist i T), fun p hp => h.pv p (List.mem_of_mem_drop hp)⟩
def sp_tidied (K : PySem.W.Frag) : Sp := fun vs H Q _ => ∃ (a : Addr) (T : Tops) (w B : Nat), vs = [.ref a] ∧ DT K H a T ∧ Ech w T ∧ w ≤ 1000 ∧ T.length ≤ 10 ∧ (∀ p ∈ T, Cost B p.2) ∧ 2 ^ T.length * B ≤ 134217728 ∧ ∀ d H', Same H H' → DT K H' d (tidyT T) → Q (.ref d) H'
theorem geo_costs {B : Nat} : ∀ {T : Tops}, Geo B T → ∃ cs, CostL T cs ∧ cs.sum = (2 ^ T.length - 1) * B
  | [], _ => ⟨[], rfl, by show 0 = (1 - 1) * B; rw [Nat.sub_self, Nat.zero_mul]⟩
  | p :: T, h => by
    obtain ⟨cs, h1, h2⟩ := geo_costs h.2
    refine ⟨(2 ^ T.length * B) :: cs, ⟨h.1, h1⟩, ?_⟩
    rw [List.sum_cons, h2, List.length_cons, Nat.pow_succ, Nat.sub_mul, Nat.sub_mul]
    have h3 : 1 ≤ 2 ^ T.length := Nat.pow_pos (by decide)
    generalize 2 ^ T.length = k at h3
    have : B ≤ k * B := Nat.le_mul_of_pos_left B h3
    rw [Nat.mul_right_comm, Nat.one_mul]
    omega
theorem ok_tidied (T : Top K mg) (hN : base.NoSeer) (hT : P.given.tree = none) : FnOk P w K mg base CX0 42 T.a_tidied T.d_tidied ["tops"] (sp_tidied K) := by
  refine T.F_tidied.ok sc_tidied (fun vs H Q E h => ?_) (fun cdv A outer s H vs Q E hr h => ?_)
  · obtain ⟨a, TT, w, B, rfl, _⟩ := h
    rfl
  · obtain ⟨a, TT, w, B, rfl, hd, ech, hw, lT, hc, hB, q⟩ := h
    refine ⟨_, (pss_cons (ps_set (i := 1) sc_tidied.nd rfl (by first | exact .inl rfl | exact .inr rfl) pe_dnewK)
      (pss_cons (ps_for PassesOwn.never rfl (piS K rfl (pe_callBK (cr_sortedDRev (b := true) rfl) (by rfl) T.z_sorted (by decide +kernel) (pa_cons (pv 0) pa_nil) (pk_cons pe_bl pk_nil))) (pg_name (i := 2) sc_tidied.nd rfl (by first | exact .inl rfl | exact .inr rfl))
      (pss_one (ps_asg (pe_c (cal_reduced T hN hT) hr (by decide) (by rfl) (pa_cons (pe_dget (hu_of hr) (pv 0) (pv 2) (fun _ _ => rfl)) (pa_cons (pv 1) pa_nil))) (pg_sub (pv 1) (pv 2) (set_dict (hu_of hr))))))
      (pss_one (ps_ret (pv 1))))), ?_⟩
    refine fun d nd => ?_
    have s0 := same_upd (o := .dK []) nd
    have hd0 := hd.same s0
    have hdd : DT K (upd H d (.dK [])) d [] := DT.nil
    generalize upd H d (.dK []) = H0 at s0 hd0 hdd ⊢
    obtain ⟨kvs, ks, hrd, hks, hpk⟩ := hd0.keys
    have lks : ks.length = TT.length := by
      have := hpk.length_eq
      unfold colT at this
      rwa [List.length_map] at this
    refine ⟨_, rfl, a, kvs, ks, rfl, rfl, hrd, hks, by omega, fun ys p hy ho np => ?_⟩
    have ey := cols_rev ech hpk hy ho
    subst ey
    have s1 := same_upd (o := .lst ((colT TT).reverse.map V.int)) np
    have ep : (upd H0 p (.lst ((colT TT).reverse.map V.int))) p = some (.lst ((colT TT).reverse.map V.int)) := upd_same
    have hd1 := hd0.same s1
    have hdd1 := hdd.same s1
    have npd : p ≠ d := fun e => by
      obtain ⟨kv2, e2, _⟩ := hdd
      rw [← e, np] at e2
      cases e2
    have nad : a ≠ d := fun e => by
      obtain ⟨kv2, e2, _⟩ := hd
      rw [e, nd] at e2
      cases e2
    have lrv : ((colT TT).reverse.map V.int).length = TT.length := by
      unfold colT
      rw [List.length_map, List.length_reverse, List.length_map]
    generalize upd H0 p (.lst ((colT TT).reverse.map V.int)) = H1 at s1 ep hd1 hdd1 ⊢
    have s01 := s0.trans s1
    refine ⟨p, _, rfl, .inl (.inl (.inl ep)), fun J G W hG => ?_⟩
    refine for_it W (fun i σ H2 => ∃ (y2 : Option V), σ = [some (.ref a), some (.ref d), y2] ∧ (∀ b o, b ≠ d → H1 b = some o → H2 b = some o) ∧ DT K H2 d (tidyT (TT.drop (TT.length - i)))) ⟨none, rfl, fun b o _ e => e, ?_⟩ (fun i σ H2 _ ⟨_, _, o2, _⟩ => hG _ fun b hb o e => o2 b o (by
      obtain rfl : b = p := by simpa using hb
      exact npd) e) ?_ ?_
    · rw [Nat.sub_zero, List.drop_length]
      exact hdd1
    · rintro i x σ H2 H2' hi ⟨y2, rfl, o2, hdt⟩ ⟨rfl, ex⟩
      have hi' : i < TT.length := by rw [lrv] at hi; exact hi
      have hk' : TT.length - 1 - i < TT.length := by omega
      have ei := List.getElem?_eq_getElem hk'
      generalize TT[TT.length - 1 - i] = pr at ei
      have hx : x = .int (pr.1 : Int) := by
        rw [List.getElem?_map, List.getElem?_reverse (by unfold colT; rw [List.length_map]; exact hi')] at ex
        unfold colT at ex
        rw [List.length_map, List.getElem?_map, ei] at ex
        exact (Option.some.inj ex).symm
      subst hx
      have hm := List.mem_of_getElem? ei
      have pv := ech.pv _ hm
      have hda : DT K H2' a TT := by
        obtain ⟨kv2, e2, pk2, hv2⟩ := hd1
        refine ⟨kv2, o2 _ _ nad e2, pk2, fun p hp => ?_⟩
        obtain ⟨v, ev, hr⟩ := hv2 p hp
        refine ⟨v, ev, ?_⟩
        obtain ⟨kd, ed, _⟩ := hdd1
        exact TRow.offD ed o2 hr
      obtain ⟨tv, hget, ht⟩ := hda.get hm
      have edr : TT.length - i = TT.length - 1 - i + 1 := by omega
      have geo := tidyT_geo (ech_drop ech (TT.length - i)) (fun q hq => hc q (List.mem_of_mem_drop hq))
      obtain ⟨cs, hcl, hsum⟩ := geo_costs geo
      have hn : (tidyT (TT.drop (TT.length - i))).length = i := by rw [tidyT_len, List.length_drop]; omega
      refine ⟨_, rfl, _, rfl, a, _, rfl, hget, ?_⟩
      refine ⟨_, rfl, tv, d, pr.2, _, w, B, cs, rfl, ht, hdt, tidyT_ech (ech_drop ech _), pv.len, hw, by omega, hc _ hm, hcl, ?_, fun v' H3 s3 h3 => ?_⟩
      · rw [hsum, hn]
        have h4 : (2 ^ i - 1) * B + B ≤ 2 ^ TT.length * B := by
          have h5 : (2 ^ i - 1) * B + B = 2 ^ i * B := by
            have h1 : 1 ≤ 2 ^ i := Nat.pow_pos (by decide)
            have : B ≤ 2 ^ i * B := Nat.le_mul_of_pos_left B h1
            rw [Nat.sub_mul, Nat.one_mul]
            omega
          rw [h5]
          exact Nat.mul_le_mul_right B (Nat.pow_le_pow_right (by decide) (by omega))
        omega
      · have hne : ∀ q ∈ tidyT (TT.drop (TT.length - i)), q.1 ≠ pr.1 := fun q hq => Nat.ne_of_gt (keys_lt (tidyT_keys _) (c := pr.1) (by
          have := (ech_drop ech (TT.length - 1 - i))
          rw [drop_cons ei, ← edr] at this
          exact this.head.2) q hq)
        obtain ⟨H4, hput, hdt4, o4⟩ := (hdt.same s3).ins (S := tidyT (TT.drop (TT.length - (i + 1)))) (j := pr.1) (by omega) hne h3 (by
          rw [show TT.length - (i + 1) = TT.length - 1 - i by omega, drop_cons ei, ← edr]
          exact List.Perm.refl _)
        exact ⟨_, rfl, _, rfl, d, H4, rfl, hput, _, rfl, fun b o nb e => o4 _ _ nb (s3 _ _ (o2 b o nb e)), hdt4⟩
    · rintro σ H2 ⟨y2, rfl, o2, hdt⟩
      rw [lrv, Nat.sub_self, List.drop_zero] at hdt
      refine ⟨_, rfl, q _ _ (fun b o e => o2 b o (fun z => ?_) (s01 b o e)) hdt⟩
      rw [z, nd] at e
      cases e
theorem cal_tidied (T : Top K mg) (hN : base.NoSeer) (hT : P.given.tree = none) : Cal P w K mg base 42 "tidied" (sp_tidied K) [] := ⟨⟨_, _, _, [], ok_tidied T hN hT, T.g_tidied, T.F_tidied.kp, T.b_tidied, .nil⟩⟩

end
end K06
namespace K06
open PySem PySem.Spec PyProof.Rows L2 Gm
open C8 (Cal Met Mak pe_c pe_mt pe_mt0 pe_mk)
section
variable {P : Program} {w : World} {K : PySem.W.Frag} {mg : Str → Option Value} {base : Heap}
theorem dget0 {H : Hp} {a : Addr} {j : Nat} {o : Option V} (h : DGet H a (.int (j : Int)) o) : DGet H a (.int (0 + (j : Int))) o := by rwa [Int.zero_add]
theorem dput0 {H H' : Hp} {a : Addr} {j : Nat} {v : V} (h : DPut H a (.int (j : Int)) v H') : DPut H a (.int (0 + (j : Int))) v H' := by rwa [Int.zero_add]
theorem all_costs {C : Nat} : ∀ {T : Tops}, (∀ p ∈ T, Cost C p.2) → CostL T (List.replicate T.length C)
  | [], _ => rfl
  | p :: T, h => ⟨h p (List.mem_cons_self ..), all_costs fun q hq => h q (List.mem_cons_of_mem _ hq)⟩
theorem sum_rep (n C : Nat) : (List.replicate n C).sum = n * C := by
  induction n with
  | zero => rw [Nat.zero_mul]; rfl
  | succ n ih => rw [List.replicate_succ, List.sum_cons, ih, Nat.succ_mul]; omega
def sp_with_row (K : PySem.W.Frag) : Sp := fun vs H Q _ => ∃ (a : Addr) (v : V) (r0 : List Int) (T0 : Tops) (w B : Nat), vs = [.ref a, v] ∧ DT K H a T0 ∧ TRow K H v r0 ∧ Ech w T0 ∧ r0.length = w ∧ w ≤ 1000 ∧ T0.length ≤ 9 ∧ (∀ p ∈ T0, Cost B p.2) ∧ Cost B r0 ∧ (T0.length + 1) * (B * (1 + tri T0.length)) ≤ 60000000 ∧ ∀ d H' T, Same H H' → DT K H' d T → WRes w B T0 r0 T → Q (.ref d) H'
theorem ok_with_row (T : Top K mg) (hN : base.NoSeer) (hT : P.given.tree = none) : FnOk P w K mg base CX0 44 T.a_with_row T.d_with_row ["tops", "row"] (sp_with_row K) := by
  refine T.F_with_row.ok sc_with_row (fun vs H Q E h => ?_) (fun cdv A outer s H vs Q E hr h => ?_)
  · obtain ⟨a, v, r0, T0, w, B, rfl, _⟩ := h
    rfl
  · obtain ⟨a, v, r0, T0, w, B, rfl, hd, hv, ech, lr, hw, lT, hc, hcr, hB, q⟩ := h
    refine ⟨_, (pss_cons (ps_set (i := 2) sc_with_row.nd rfl (by first | exact .inl rfl | exact .inr rfl) (pe_callTy call_dictD (by rfl) T.z_dict (by decide +kernel) (pa_cons (pv 0) pa_nil)))
      (pss_cons (ps_for PassesOwn.never rfl (pi_range1 (by rfl) T.z_range (pa_cons (pe_callB (lenS K rfl) (by rfl) T.z_len (by decide +kernel) (pa_cons (pv 1) pa_nil)) pa_nil)) (pg_name (i := 3) sc_with_row.nd rfl (by first | exact .inl rfl | exact .inr rfl))
      (pss_cons (ps_if (pt_cmpR op_eq (pe_ix (ixT K rfl) (pv 1) (pv 3) (fun _ _ => rfl)) pe_int (nomark _))
      (pss_one ps_continue)
      pss_nil)
      (pss_cons (ps_if (pt_cmp (pc_dnotin (hu_of hr) (pv 3) (pv 2)) (by with_unfolding_all rfl))
      (pss_cons (ps_asg (pe_ifExp (pt_cmpR op_gt (pe_ix (ixT K rfl) (pv 1) (pv 3) (fun _ _ => rfl)) pe_int (nomark _)) (pv 1) (pe_callTy (tupK K rfl) (by rfl) T.z_tuple (by decide +kernel) (pa_cons (pe_lc (own := [("item", 5)]) (g := (gName 5)) (by rfl) sc_with_row.nd (piS K rfl (pv 1)) ((by show BlkOk ["tops", "row", "found", "column", "top", "item"] (defScope s_with_row) _ _; exact blkOk_by (by decide +kernel))) (fun _ _ _ _ _ => (pg_name (i := 5) sc_with_row.nd rfl (by first | exact .inl rfl | exact .inr rfl))) (fun _ _ _ _ _ => pts_nil) (fun _ _ _ _ _ => (pe_un un_neg (pv 5)))) pa_nil))) (pg_sub (pv 2) (pv 3) (set_dict (hu_of hr))))
      (pss_one (ps_ret (pv 2))))
      pss_nil)
      (pss_cons (ps_asg (pe_c (cal_merged T hN hT) hr (by decide) (by rfl) (pa_cons (pe_dget (hu_of hr) (pv 2) (pv 3) (fun _ _ => rfl)) (pa_cons (pv 1) (pa_cons (pv 3) pa_nil)))) (pg_tup rfl (pgs_cons (pg_name (i := 4) sc_with_row.nd rfl (by first | exact .inl rfl | exact .inr rfl)) (pgs_cons (pg_name (i := 1) sc_with_row.nd rfl (by first | exact .inl rfl | exact .inr rfl)) pgs_nil))))
      (pss_cons (ps_asg (pv 4) (pg_sub (pv 2) (pv 3) (set_dict (hu_of hr))))
      (pss_one (ps_set (i := 1) sc_with_row.nd rfl (by first | exact .inl rfl | exact .inr rfl) (pe_c (cal_reduced T hN hT) hr (by decide) (by rfl) (pa_cons (pv 1) (pa_cons (pv 2) pa_nil))))))))))
      (pss_one (ps_ret (pv 2))))), ?_⟩
    rw [← fB_0] at hB
    obtain ⟨kvs, e0, pk0, hv0⟩ := hd
    refine ⟨_, rfl, a, kvs, rfl, .inl e0, fun d nd => ?_⟩
    have s0 := same_upd (o := .dK kvs) nd
    have hdd : DT K (upd H d (.dK kvs)) d T0 := ⟨kvs, upd_same, pk0, fun p hp => let ⟨v, ev, hr⟩ := hv0 p hp; ⟨v, ev, TRow.same s0 hr⟩⟩
    have hv1 := TRow.same s0 hv
    have ed0 : (upd H d (.dK kvs)) d = some (.dK kvs) := upd_same
    generalize upd H d (.dK kvs) = H0 at s0 hdd hv1 ed0 ⊢
    obtain ⟨pr0, rfl, hr0⟩ := hv1
    refine ⟨_, rfl, pr0, _, rfl, .inr hr0, _, rfl, ?_⟩
    have bw : ((r0.map V.int).length : Int) < 2 ^ 62 := by
      rw [List.length_map, lr]
      have : (1000 : Int) < 2 ^ 62 := by decide
      omega
    refine ⟨by omega, bw, ?_⟩
    refine for_it walk_range (fun i σ H2 => ∃ (rv : V) (T : Tops) (r : List Int) (y3 y4 y5 : Option V), σ = [some (.ref a), some rv, some (.ref d), y3, y4, y5] ∧ (∀ b o, b ≠ d → H0 b = some o → H2 b = some o) ∧ DT K H2 d T ∧ TRow K H2 rv r ∧ WR w B T0 r0 i T r) ⟨_, T0, r0, none, none, none, rfl, fun b o _ e => e, hdd, ⟨pr0, rfl, hr0⟩, WR.start ech lr hc hcr⟩ (fun _ _ _ _ _ => trivial) ?_ ?_
    · rintro i x σ H2 H2' hi ⟨rv, TT, r, y3, y4, y5, rfl, o2, hdt, ⟨pr, rfl, hr1⟩, W⟩ ⟨rfl, rfl⟩
      have hi' : i < w := by
        rw [List.length_map, lr] at hi
        omega
      have lTT := W.len
      have hat := at_getD (r := r) (j := i) (z := 0 + (i : Int)) (by omega) (by rw [W.lr]; exact hi')
      refine ⟨_, rfl, _, rfl, pr, _, _, _, rfl, rfl, hr1, hat, rfl, _, rfl, ?_⟩
      by_cases hz : r.getD i 0 = 0
      · rw [show decide (V.int (r.getD i 0) = V.int 0) = true from decide_eq_true (by rw [hz])]
        refine iteT ?_
        exact ⟨_, TT, r, _, _, _, rfl, o2, hdt, ⟨pr, rfl, hr1⟩, W.skip hz⟩
      rw [show decide (V.int (r.getD i 0) = V.int 0) = false from decide_eq_false (fun z => hz (V.int.inj z))]
      refine iteF ?_
      obtain ⟨o, hget, hos⟩ := hdt.has i
      refine ⟨_, rfl, _, rfl, d, o, rfl, dget0 hget, _, rfl, ?_⟩
      by_cases hk : ∃ p ∈ TT, p.1 = i
      · obtain ⟨⟨i', t⟩, ht, e⟩ := hk
        have e : i' = i := e
        subst e
        rw [show (!o.isSome) = false by rw [hos.mpr ⟨_, ht, rfl⟩]; rfl]
        refine iteF ?_
        obtain ⟨tv, hget2, htr⟩ := hdt.get ht
        have hcB := W.cT _ ht (Nat.le_refl _)
        have hpv := W.E.pv _ ht
        have hrc := W.cr
        have hf0 := fB_mono (B := B) (k := T0.length) (Nat.zero_le (cnt i' TT))
        have hBf : B ≤ fB B T0.length 0 := fB_B
        have hmul : fB B T0.length 0 ≤ (T0.length + 1) * fB B T0.length 0 := Nat.le_mul_of_pos_left _ (by omega)
        refine ⟨_, rfl, _, rfl, d, _, rfl, dget0 hget2, _, rfl, _, rfl, ?_⟩
        refine ⟨tv, .ref pr, t, r, w, i', B, _, rfl, htr, ⟨pr, rfl, hr1⟩, hpv.len, W.lr, hw, hi', by have := hpv.pos; exact Int.ne_of_gt this, hz, hcB, hrc, by omega, by omega, fun tp v3 v4 g u v H3 s3 cf htp h3 h4 => ?_⟩
        obtain ⟨W', c1, c2⟩ := W.merge hi' hz ht cf
        refine ⟨tp, _, rfl, htp, rfl, _, _, rfl, _, _, rfl, rfl, ?_⟩
        have hdt3 := hdt.same s3
        obtain ⟨H4, hput, hdt4, o4⟩ := hdt3.set (j := i') (by omega) ⟨_, ht, rfl⟩ h3
        obtain ⟨kv3, ek3, _⟩ := hdt3
        have h4' := TRow.offD ek3 o4 h4
        have hcs : ∀ p ∈ setK i' (mixR u t v r) TT, Cost (fB B T0.length 0) p.2 := fun p hp => by
          rcases mem_setK hp with rfl | ⟨hp, _⟩
          · exact c1
          · exact W.cA p hp
        have hT' : (setK i' (mixR u t v r) TT).length = T0.length := by rw [setK_len, lTT]
        have lmx : (mixR (t.getD i' 0 / g) r (-(r.getD i' 0 / g)) t).length = w := mixR_len W.lr hpv.len
        refine ⟨_, rfl, _, rfl, _, rfl, d, H4, rfl, dput0 hput, ?_⟩
        refine ⟨_, rfl, _, rfl, v4, d, _, _, w, _, _, rfl, h4', hdt4, W'.E, lmx, hw, by omega, c2, all_costs hcs, ?_, fun v5 H5 s5 h5 => ?_⟩
        · rw [sum_rep, hT']
          have : (T0.length + 1) * fB B T0.length 0 = T0.length * fB B T0.length 0 + fB B T0.length 0 := Nat.succ_mul ..
          omega
        · exact ⟨v5, _, _, _, _, _, rfl, fun b o nb e => s5 _ _ (o4 _ _ nb (s3 _ _ (o2 b o nb e))), hdt4.same s5, h5, W'⟩
      · rw [show (!o.isSome) = true by
          cases ho : o.isSome
          · rfl
          · exact absurd (hos.mp ho) hk]
        refine iteT ?_
        have hk' : ∀ p ∈ TT, p.1 ≠ i := fun p hp e => hk ⟨p, hp, e⟩
        refine ⟨_, rfl, _, rfl, pr, _, _, _, rfl, rfl, hr1, hat, _, _, rfl, rfl, _, rfl, ?_⟩
        have lnr : (normR i r).length = w := by rw [normR_len]; exact W.lr
        have fin : ∀ (v' : V) (H3 : Hp), (∀ b o, b ≠ d → H0 b = some o → H3 b = some o) → DT K H3 d TT → TRow K H3 v' (normR i r) → ∃ H4, DPut H3 d (.int (0 + (i : Int))) v' H4 ∧ Q (.ref d) H4 := fun v' H3 o3 hd3 hv3 => by
          obtain ⟨H4, hput, hd4, o4⟩ := hd3.ins (S := insK i (normR i r) TT) (j := i) (by omega) hk' hv3 insK_perm
          refine ⟨H4, dput0 hput, q d H4 _ (fun b o e => ?_) hd4 (W.insert hi' hz hk')⟩
          have nb : b ≠ d := fun z => by rw [z, nd] at e; cases e
          exact o4 _ _ nb (o3 _ _ nb (s0 _ _ e))
        by_cases hpos : 0 < r.getD i 0
        · rw [decide_eq_true hpos]
          refine iteT ?_
          obtain ⟨H4, hput, hq⟩ := fin (.ref pr) _ o2 hdt (by unfold normR; rw [if_pos hpos]; exact ⟨pr, rfl, hr1⟩)
          exact ⟨_, rfl, _, rfl, _, rfl, d, H4, rfl, hput, _, rfl, hq⟩
        · rw [decide_eq_false hpos]
          refine iteF ?_
          have en : normR i r = r.map fun z => -z := by unfold normR; rw [if_neg hpos]
          refine ⟨_, rfl, pr, _, rfl, .inr hr1, fun J2 G2 W2 hG2 D hD => ?_⟩
          refine lc_all W2 hD (by rw [List.length_map, W.lr]; exact hw) (fun H4 s4 => hG2 H4 fun b _ o => s4 b o) (fun j v _ => ∃ z, (r.map fun z => -z)[j]? = some z ∧ v = .int z) (fun _ _ _ _ _ _ _ h => h) ?_ gm_name ?_
          · rintro j x H4 H4' acc Ko hj s4 eD ⟨rfl, ex⟩ k
            obtain ⟨z, ez, rfl⟩ := ints_get ex
            refine ⟨rfl, ?_⟩
            refine ⟨_, rfl, _, rfl, ?_⟩
            exact k _ _ (Same.refl _) ⟨-z, by rw [List.getElem?_map, ez]; rfl, rfl⟩
          · intro H4 l s4 eD hpl
            have el := ints_list (by rw [List.length_map, List.length_map]) hpl
            subst el
            refine ⟨D, _, rfl, .inl ⟨.inl (.inl eD), fun t nt => ?_⟩⟩
            have s5 := s4.trans (same_upd (o := .tup ((r.map fun z => -z).map V.int)) nt)
            obtain ⟨H5, hput, hq⟩ := fin (.ref t) _ (fun b o nb e => s5 _ _ (o2 b o nb e)) (hdt.same s5) (by rw [en]; exact ⟨t, rfl, .inl (.inl upd_same)⟩)
            exact ⟨_, rfl, _, rfl, d, H5, rfl, hput, _, rfl, hq⟩
    · rintro σ H2 ⟨rv, TT, r, y3, y4, y5, rfl, o2, hdt, hr1, W⟩
      refine ⟨_, rfl, q d _ TT (fun b o e => ?_) hdt ?_⟩
      · have nb : b ≠ d := fun z => by rw [z, nd] at e; cases e
        exact o2 _ _ nb (s0 _ _ e)
      · have e1 : ((r0.map V.int).length : Int).toNat = w := by rw [List.length_map, lr]; omega
        rw [e1] at W
        exact W.done
theorem cal_with_row (T : Top K mg) (hN : base.NoSeer) (hT : P.given.tree = none) : Cal P w K mg base 44 "with_row" (sp_with_row K) [] := ⟨⟨_, _, _, [], ok_with_row T hN hT, T.g_with_row, T.F_with_row.kp, T.b_with_row, .nil⟩⟩

end
end K06
namespace K06
open PySem PySem.Spec PyProof.Rows L2 Gm
open C8 (Cal Met Mak pe_c pe_mt pe_mt0 pe_mk)
section
variable {P : Program} {w : World} {K : PySem.W.Frag} {mg : Str → Option Value} {base : Heap}
def hC (B : Nat) : Nat → Nat
  | 0 => B
  | k + 1 => 2 ^ k * (hC B k * (1 + tri k))
theorem hC_le (B : Nat) : ∀ k, hC B k ≤ hC B (k + 1) := fun k => by
  show hC B k ≤ 2 ^ k * (hC B k * (1 + tri k))
  have h1 : 1 ≤ 2 ^ k := Nat.pow_pos (by decide)
  have h2 : hC B k ≤ hC B k * (1 + tri k) := Nat.le_mul_of_pos_right _ (by omega)
  exact Nat.le_trans h2 (Nat.le_mul_of_pos_left _ h1)
theorem hC_mono (B : Nat) {k n : Nat} (h : k ≤ n) : hC B k ≤ hC B n := by
  induction h with
  | refl => exact Nat.le_refl _
  | step _ ih => exact Nat.le_trans ih (hC_le B _)
theorem tri_le {a b : Nat} (h : a ≤ b) : tri a ≤ tri b := tri_mono h
structure HRes (w B : Nat) (m : List (List Int)) (n : Nat) (T : Tops) : Prop where
  E : Ech w T
  tid : Tid T
  span : ∀ x, Spn (rowsT T) x ↔ Spn (m.take n) x
  len : T.length ≤ n
  cost : ∀ p ∈ T, Cost (hC B n) p.2
  full : (∀ i, i < n → ∃ d, (∀ k, k < i → (m.getD k []).getD d 0 = 0) ∧ (m.getD i []).getD d 0 ≠ 0) → T.length = n
theorem take_add {α : Type} {m : List α} {i : Nat} {r : α} (h : m[i]? = some r) : m.take (i + 1) = m.take i ++ [r] := by
  rw [List.take_add_one, h]
  rfl
theorem hres_step {w B i : Nat} {m : List (List Int)} {T S : Tops} {r : List Int} (h : HRes w B m i T) (er : m[i]? = some r) (R : WRes w (hC B i) T r S) : HRes w B m (i + 1) (tidyT S) := by
  refine ⟨tidyT_ech R.E, tidyT_tid R.E, fun x => ?_, ?_, fun p hp => ?_, fun hf => ?_⟩
  · refine Iff.trans (tidyT_span R.E x) (Iff.trans (R.span x) ?_)
    rw [take_add er]
    constructor
    · refine Spn.sub fun q hq => ?_
      rcases List.mem_cons.mp hq with rfl | hq
      · exact Spn.mem (List.mem_append_right _ (List.mem_singleton.mpr rfl))
      · exact Spn.sub (fun q' hq' => Spn.mem (List.mem_append_left _ hq')) ((h.span _).mp (Spn.mem hq))
    · refine Spn.sub fun q hq => ?_
      rcases List.mem_append.mp hq with hq | hq
      · exact ((h.span _).mpr (Spn.mem hq)).tail
      · obtain rfl := List.mem_singleton.mp hq
        exact Spn.head _ _
  · rw [tidyT_len]
    have := h.len
    rcases R.len with e | e <;> omega
  · have hS : ∀ p ∈ S, Cost (hC B i * (1 + tri i)) p.2 := fun p hp => (R.cost p hp).up (Nat.mul_le_mul_left _ (by have := tri_le h.len; omega))
    have h1 := tidyT_cost R.E hS p hp
    refine h1.up ?_
    show 2 ^ (S.length - 1) * _ ≤ 2 ^ i * _
    refine Nat.mul_le_mul_right _ (Nat.pow_le_pow_right (by decide) ?_)
    have := h.len
    rcases R.len with e | e <;> omega
  · rw [tidyT_len]
    have hT := h.full fun k hk => hf k (by omega)
    obtain ⟨d, hd, hn⟩ := hf i (by omega)
    have e1 : m.getD i [] = r := by rw [List.getD_eq_getElem?_getD, er]; rfl
    rw [e1] at hn
    have hz : ∀ p ∈ T, p.2.getD d 0 = 0 := fun p hp => by
      have h1 := (h.span _).mp (Spn.mem (List.mem_map.mpr ⟨p, hp, rfl⟩))
      refine Spn.prop (fun x => x d = 0) rfl (fun x y a hx hy => by show x d + a * y d = 0; rw [hx, hy, Int.mul_zero]; rfl) (fun q hq => ?_) h1
      obtain ⟨k, ek⟩ := List.getElem?_of_mem hq
      rw [List.getElem?_take] at ek
      split at ek
      · rename_i hk
        have := hd k hk
        rw [show m.getD k [] = q by rw [List.getD_eq_getElem?_getD, ek]; rfl] at this
        exact this
      · cases ek
    rw [R.full d hz hn, hT]
theorem dt_row {K : PySem.W.Frag} {H : Hp} {a : Addr} {T : Tops} {i : Nat} {p : Nat × List Int} (h : DT K H a T) (e : T[i]? = some p) : ∃ v, DGet H a (.int (p.1 : Int)) (some v) ∧ TRow K H v p.2 := h.get (List.mem_of_getElem? e)
def sp_hermite_rows (K : PySem.W.Frag) : Sp := fun vs H Q _ => ∃ (v : V) (m : List (List Int)) (w B : Nat), vs = [v] ∧ TRows K H v m ∧ (∀ r ∈ m, r.length = w) ∧ w ≤ 1000 ∧ m.length ≤ 9 ∧ (∀ r ∈ m, Cost B r) ∧ (∀ k, k < m.length → (k + 1) * (hC B k * (1 + tri k)) ≤ 60000000) ∧ 2 * hC B m.length ≤ 134217728 ∧ ∀ T t H', Same H H' → HRes w B m m.length T → TRows K H' t (rowsT T) → Q t H'
theorem ok_hermite_rows (T : Top K mg) (hN : base.NoSeer) (hT : P.given.tree = none) : FnOk P w K mg base CX0 45 T.a_hermite_rows T.d_hermite_rows ["rows"] (sp_hermite_rows K) := by
  refine T.F_hermite_rows.ok sc_hermite_rows (fun vs H Q E h => ?_) (fun cdv A outer s H vs Q E hr h => ?_)
  · obtain ⟨v, m, w, B, rfl, _⟩ := h
    rfl
  · obtain ⟨v, m, w, B, rfl, hv, hl, hw, lm, hc, hB1, hB, q⟩ := h
    refine ⟨_, (pss_cons (ps_set (i := 1) sc_hermite_rows.nd rfl (by first | exact .inl rfl | exact .inr rfl) pe_dnewK)
      (pss_cons (ps_for PassesOwn.never rfl (piS K rfl (pv 0)) (pg_name (i := 2) sc_hermite_rows.nd rfl (by first | exact .inl rfl | exact .inr rfl))
      (pss_one (ps_set (i := 1) sc_hermite_rows.nd rfl (by first | exact .inl rfl | exact .inr rfl) (pe_c (cal_tidied T hN hT) hr (by decide) (by rfl) (pa_cons (pe_c (cal_with_row T hN hT) hr (by decide) (by rfl) (pa_cons (pv 1) (pa_cons (pv 2) pa_nil))) pa_nil)))))
      (pss_one (ps_ret (pe_callTy (tupK K rfl) (by rfl) T.z_tuple (by decide +kernel) (pa_cons (pe_lc (own := [("column", 3)]) (g := (gName 3)) (by rfl) sc_hermite_rows.nd (piS K rfl (pe_callB (call_sortedDI rfl) (by rfl) T.z_sorted (by decide +kernel) (pa_cons (pv 1) pa_nil))) ((by show BlkOk ["rows", "tops", "row", "column"] (defScope s_hermite_rows) _ _; exact blkOk_by (by decide +kernel))) (fun _ _ _ _ _ => (pg_name (i := 3) sc_hermite_rows.nd rfl (by first | exact .inl rfl | exact .inr rfl))) (fun _ _ _ _ _ => pts_nil) (fun _ _ _ _ _ => (pe_dget (hu_of hr) (pv 1) (pv 3) (fun _ _ => rfl)))) pa_nil)))))), ?_⟩
    refine fun d nd => ?_
    have s0 := same_upd (o := .dK []) nd
    have hdd : DT K (upd H d (.dK [])) d [] := DT.nil
    obtain ⟨a, ws, rfl, ha, hp⟩ := TRows.same s0 hv
    generalize upd H d (.dK []) = H0 at s0 hdd ha hp ⊢
    have lws : ws.length = m.length := hp.length
    refine ⟨_, rfl, a, ws, rfl, .inr ha, fun J G W hG => ?_⟩
    refine for_it W (fun i σ H2 => ∃ (d2 : Addr) (T : Tops) (y2 y3 : Option V), σ = [some (.ref a), some (.ref d2), y2, y3] ∧ Same H0 H2 ∧ DT K H2 d2 T ∧ HRes w B m i T) ⟨d, [], none, none, rfl, Same.refl _, hdd, ?_⟩ (fun i σ H2 _ ⟨_, _, _, _, _, s2, _⟩ => hG _ fun b _ o => s2 b o) ?_ ?_
    · exact ⟨⟨List.Pairwise.nil, fun p hp => (by cases hp)⟩, trivial, fun x => Iff.rfl, Nat.le_refl _, fun p hp => (by cases hp), fun _ => rfl⟩
    · rintro i x σ H2 H2' hi ⟨d2, TT, y2, y3, rfl, s2, hdt, R⟩ ⟨rfl, ex⟩
      obtain ⟨r, er, hr⟩ := Paired.getR hp ex
      have hi' : i < m.length := by omega
      have hr2 := TRow.same s2 hr
      have hrm := List.mem_of_getElem? er
      have h1 := hC_mono B (show i + 1 ≤ m.length from hi')
      have h2 : hC B (i + 1) = 2 ^ i * (hC B i * (1 + tri i)) := rfl
      have h3 := R.len
      have h4 : B ≤ hC B i := hC_mono B (Nat.zero_le i)
      have h5 := tri_le h3
      have h6 : hC B i * (1 + tri TT.length) ≤ hC B i * (1 + tri i) := Nat.mul_le_mul_left _ (by omega)
      have h8 := hB1 i hi'
      have h9 : (TT.length + 1) * (hC B i * (1 + tri TT.length)) ≤ (i + 1) * (hC B i * (1 + tri i)) := Nat.mul_le_mul (by omega) h6
      refine ⟨_, rfl, _, rfl, d2, x, r, TT, w, hC B i, rfl, hdt, hr2, R.E, hl r hrm, hw, by omega, R.cost, (hc r hrm).up h4, by omega, fun d3 H3 S s3 hd3 WR3 => ?_⟩
      have hS : ∀ p ∈ S, Cost (hC B i * (1 + tri TT.length)) p.2 := WR3.cost
      have lS : S.length ≤ i + 1 := by rcases WR3.len with e | e <;> omega
      refine ⟨d3, S, w, _, rfl, hd3, WR3.E, hw, by omega, hS, ?_, fun d4 H4 s4 hd4 => ?_⟩
      · have k1 : 2 ^ S.length ≤ 2 ^ (i + 1) := Nat.pow_le_pow_right (by decide) lS
        have k2 := Nat.mul_le_mul k1 h6
        have k3 : 2 ^ (i + 1) * (hC B i * (1 + tri i)) = 2 * hC B (i + 1) := by rw [h2, Nat.pow_succ, Nat.mul_comm (2 ^ i) 2, Nat.mul_assoc]
        omega
      · exact ⟨d4, _, _, _, rfl, s2.trans (s3.trans s4), hd4, hres_step R er WR3⟩
    · rintro σ H2 ⟨d2, TT, y2, y3, rfl, s2, hdt, R⟩
      rw [lws] at R
      obtain ⟨kvs, ks, hrd, hks, hpk⟩ := hdt.keys
      have lks : ks.length = TT.length := by
        have := hpk.length_eq
        unfold colT at this
        rwa [List.length_map] at this
      have := R.len
      refine ⟨_, rfl, d2, kvs, ks, rfl, hrd, hks, by omega, fun ys p hy ho np => ?_⟩
      have ey := cols_eq R.E hpk hy ho
      subst ey
      have s5 := same_upd (o := .lst ((colT TT).map V.int)) np
      have ep : (upd H2 p (.lst ((colT TT).map V.int))) p = some (.lst ((colT TT).map V.int)) := upd_same
      have hd5 := hdt.same s5
      generalize upd H2 p (.lst ((colT TT).map V.int)) = H5 at s5 ep hd5 ⊢
      have lcol : ((colT TT).map V.int).length = TT.length := by unfold colT; rw [List.length_map, List.length_map]
      refine ⟨p, _, rfl, .inl (.inl (.inl ep)), fun J2 G2 W2 hG2 D hD => ?_⟩
      refine lc_all W2 hD (by omega) (fun H4 s4 => hG2 H4 fun b _ o => s4 b o) (fun i v H4 => ∃ r, (rowsT TT)[i]? = some r ∧ TRow K H4 v r) (fun i v H4 H5 acc e o ⟨r, er, h⟩ => ⟨r, er, TRow.off e o h⟩) ?_ gm_name ?_
      · rintro j x H6 H6' acc Ko hj s6 eD ⟨rfl, ex⟩ k
        have hj' : j < TT.length := by rw [lcol] at hj; exact hj
        have ej := List.getElem?_eq_getElem hj'
        generalize TT[j] = pr at ej
        have hx : x = .int (pr.1 : Int) := by
          unfold colT at ex
          rw [List.getElem?_map, List.getElem?_map, ej] at ex
          exact (Option.some.inj ex).symm
        subst hx
        obtain ⟨v, hget, hrow⟩ := dt_row (hd5.same s6) ej
        refine ⟨rfl, ?_⟩
        refine ⟨_, rfl, _, rfl, d2, v, rfl, hget, ?_⟩
        exact k _ _ (Same.refl _) ⟨pr.2, by rw [List.getElem?_map, ej]; rfl, hrow⟩
      · intro H6 l s6 eD hpl
        refine ⟨D, _, rfl, .inl ⟨.inl (.inl eD), fun t nt => ?_⟩⟩
        have s7 := same_upd (o := .tup l) nt
        refine q TT _ _ (s0.trans (s2.trans (s5.trans (s6.trans s7)))) R ⟨t, l, rfl, .inl (.inl upd_same), ?_⟩
        exact L2.Paired.mapP (paired_at (m := rowsT TT) (by rw [lcol, List.length_map]) hpl) fun _ _ => TRow.same s7
theorem cal_hermite_rows (T : Top K mg) (hN : base.NoSeer) (hT : P.given.tree = none) : Cal P w K mg base 45 "hermite_rows" (sp_hermite_rows K) [] := ⟨⟨_, _, _, [], ok_hermite_rows T hN hT, T.g_hermite_rows, T.F_hermite_rows.kp, T.b_hermite_rows, .nil⟩⟩

end
end K06
namespace K06
open PySem PySem.Spec PyProof.Rows L2 Gm
open C8 (Cal Met Mak pe_c pe_mt pe_mt0 pe_mk)
section
variable {P : Program} {w : World} {K : PySem.W.Frag} {mg : Str → Option Value} {base : Heap}
/-! ### unimodular matrices by steps, sizes up to 4 -/
def l1 (r : List Int) : Nat := (r.map Int.natAbs).sum
theorem l1_at {x : Int} : ∀ {r : List Int}, x ∈ r → x.natAbs ≤ l1 r
  | y :: r, h => by
    show x.natAbs ≤ y.natAbs + l1 r
    rcases List.mem_cons.mp h with rfl | h
    · omega
    · have := l1_at h
      omega
def negR (r : List Int) : List Int := r.map fun z => -z
theorem l1_neg (r : List Int) : l1 (negR r) = l1 r := by
  unfold l1 negR
  rw [List.map_map]
  congr 1
  refine List.map_congr_left fun z _ => ?_
  show (-z).natAbs = z.natAbs
  omega
def zipR (c : Int) (x y : List Int) : List Int := List.zipWith (fun a b => a + c * b) x y
theorem l1_zip {c : Int} (hc : c.natAbs ≤ 2) : ∀ {x y : List Int}, x.length = y.length → l1 (zipR c x y) ≤ l1 x + 2 * l1 y
  | [], _, _ => Nat.zero_le _
  | a :: x, [], h => by cases h
  | a :: x, b :: y, h => by
    have ih := l1_zip hc (x := x) (y := y) (by simpa using h)
    show (a + c * b).natAbs + l1 (zipR c x y) ≤ a.natAbs + l1 x + 2 * (b.natAbs + l1 y)
    have h1 := Int.natAbs_add_le a (c * b)
    have h2 : (c * b).natAbs ≤ 2 * b.natAbs := by
      rw [Int.natAbs_mul]
      exact Nat.mul_le_mul_right b.natAbs hc
    omega
def stepM (m : List (List Int)) (i k : Nat) (c : Int) : List (List Int) := m.set i (if i = k then negR (m.getD i []) else zipR c (m.getD i []) (m.getD k []))
structure UniT (n t : Nat) (m : List (List Int)) : Prop where
  sz : Sz n m
  l1 : ∀ r ∈ m, l1 r ≤ 3 ^ t
  det : (detL n m).natAbs = 1
theorem uniT_row {n t i : Nat} {m : List (List Int)} (h : UniT n t m) (hi : i < n) : m[i]? = some (m.getD i []) ∧ m.getD i [] ∈ m ∧ (m.getD i []).length = n := by
  have hi' : i < m.length := by rw [h.sz.len]; exact hi
  have e : m.getD i [] = m[i] := by rw [List.getD_eq_getElem?_getD, List.getElem?_eq_getElem hi']; rfl
  have hm := List.getElem_mem hi'
  exact ⟨by rw [e]; exact List.getElem?_eq_getElem hi', by rw [e]; exact hm, by rw [e]; exact h.sz.row _ hm⟩
theorem sz_set {n i : Nat} {m : List (List Int)} {r : List Int} (h : Sz n m) (hr : r.length = n) : Sz n (m.set i r) := ⟨by rw [List.length_set]; exact h.len, fun q hq => by
  rcases List.mem_or_eq_of_mem_set hq with hq | rfl
  · exact h.row q hq
  · exact hr⟩
theorem zipR_len {c : Int} {x y : List Int} {n : Nat} (hx : x.length = n) (hy : y.length = n) : (zipR c x y).length = n := by
  unfold zipR
  rw [List.length_zipWith, hx, hy, Nat.min_self]
theorem n1234 {n : Nat} (h0 : 0 < n) (h4 : n ≤ 4) : n = 1 ∨ n = 2 ∨ n = 3 ∨ n = 4 := by omega
theorem det_neg1 {n i : Nat} {m : List (List Int)} (hs : Sz n m) (h4 : n ≤ 4) (hi : i < n) : detL n (m.set i (negR (m.getD i []))) = -detL n m := by
  rcases n1234 (by omega) h4 with rfl | rfl | rfl | rfl
  · obtain ⟨a, rfl⟩ := sz1 hs
    obtain rfl : i = 0 := by omega
    show detL 1 [[-a]] = _
    rw [detL1, detL1]
  · obtain ⟨a, b, c, d, rfl⟩ := sz2 hs
    rcases (show i = 0 ∨ i = 1 by omega) with rfl | rfl
    · show detL 2 [[-a, -b], [c, d]] = _
      rw [detL2, detL2]
      unfold D2
      grind
    · show detL 2 [[a, b], [-c, -d]] = _
      rw [detL2, detL2]
      unfold D2
      grind
  · obtain ⟨a, b, c, d, e, f, g, k, l, rfl⟩ := sz3 hs
    rcases (show i = 0 ∨ i = 1 ∨ i = 2 by omega) with rfl | rfl | rfl
    · show detL 3 [[-a, -b, -c], [d, e, f], [g, k, l]] = _
      rw [detL3, detL3]
      unfold D3 D2
      grind
    · show detL 3 [[a, b, c], [-d, -e, -f], [g, k, l]] = _
      rw [detL3, detL3]
      unfold D3 D2
      grind
    · show detL 3 [[a, b, c], [d, e, f], [-g, -k, -l]] = _
      rw [detL3, detL3]
      unfold D3 D2
      grind
  · obtain ⟨a, b, c, d, e, f, g, k, l, o, p, q, r, s, t, u, rfl⟩ := sz4 hs
    rcases (show i = 0 ∨ i = 1 ∨ i = 2 ∨ i = 3 by omega) with rfl | rfl | rfl | rfl
    · show detL 4 [[-a, -b, -c, -d], [e, f, g, k], [l, o, p, q], [r, s, t, u]] = _
      rw [detL4, detL4]
      unfold D4 D3 D2
      grind
    · show detL 4 [[a, b, c, d], [-e, -f, -g, -k], [l, o, p, q], [r, s, t, u]] = _
      rw [detL4, detL4]
      unfold D4 D3 D2
      grind
    · show detL 4 [[a, b, c, d], [e, f, g, k], [-l, -o, -p, -q], [r, s, t, u]] = _
      rw [detL4, detL4]
      unfold D4 D3 D2
      grind
    · show detL 4 [[a, b, c, d], [e, f, g, k], [l, o, p, q], [-r, -s, -t, -u]] = _
      rw [detL4, detL4]
      unfold D4 D3 D2
      grind
theorem det_zip1 {n i j : Nat} {m : List (List Int)} {z : Int} (hs : Sz n m) (h4 : n ≤ 4) (hi : i < n) (hj : j < n) (hij : i ≠ j) : detL n (m.set i (zipR z (m.getD i []) (m.getD j []))) = detL n m := by
  rcases n1234 (by omega) h4 with rfl | rfl | rfl | rfl
  · omega
  · obtain ⟨a, b, c, d, rfl⟩ := sz2 hs
    rcases (show i = 0 ∧ j = 1 ∨ i = 1 ∧ j = 0 by omega) with ⟨rfl, rfl⟩ | ⟨rfl, rfl⟩
    · show detL 2 [[a + z * c, b + z * d], [c, d]] = _
      rw [detL2, detL2]
      unfold D2
      grind
    · show detL 2 [[a, b], [c + z * a, d + z * b]] = _
      rw [detL2, detL2]
      unfold D2
      grind
  · obtain ⟨a, b, c, d, e, f, g, k, l, rfl⟩ := sz3 hs
    rcases (show i = 0 ∧ j = 1 ∨ i = 0 ∧ j = 2 ∨ i = 1 ∧ j = 0 ∨ i = 1 ∧ j = 2 ∨ i = 2 ∧ j = 0 ∨ i = 2 ∧ j = 1 by omega) with ⟨rfl, rfl⟩ | ⟨rfl, rfl⟩ | ⟨rfl, rfl⟩ | ⟨rfl, rfl⟩ | ⟨rfl, rfl⟩ | ⟨rfl, rfl⟩
    · show detL 3 [[a + z * d, b + z * e, c + z * f], [d, e, f], [g, k, l]] = _
      rw [detL3, detL3]
      unfold D3 D2
      grind
    · show detL 3 [[a + z * g, b + z * k, c + z * l], [d, e, f], [g, k, l]] = _
      rw [detL3, detL3]
      unfold D3 D2
      grind
    · show detL 3 [[a, b, c], [d + z * a, e + z * b, f + z * c], [g, k, l]] = _
      rw [detL3, detL3]
      unfold D3 D2
      grind
    · show detL 3 [[a, b, c], [d + z * g, e + z * k, f + z * l], [g, k, l]] = _
      rw [detL3, detL3]
      unfold D3 D2
      grind
    · show detL 3 [[a, b, c], [d, e, f], [g + z * a, k + z * b, l + z * c]] = _
      rw [detL3, detL3]
      unfold D3 D2
      grind
    · show detL 3 [[a, b, c], [d, e, f], [g + z * d, k + z * e, l + z * f]] = _
      rw [detL3, detL3]
      unfold D3 D2
      grind
  · obtain ⟨a, b, c, d, e, f, g, k, l, o, p, q, r, s, t, u, rfl⟩ := sz4 hs
    rcases (show i = 0 ∧ j = 1 ∨ i = 0 ∧ j = 2 ∨ i = 0 ∧ j = 3 ∨ i = 1 ∧ j = 0 ∨ i = 1 ∧ j = 2 ∨ i = 1 ∧ j = 3 ∨ i = 2 ∧ j = 0 ∨ i = 2 ∧ j = 1 ∨ i = 2 ∧ j = 3 ∨ i = 3 ∧ j = 0 ∨ i = 3 ∧ j = 1 ∨ i = 3 ∧ j = 2 by omega) with ⟨rfl, rfl⟩ | ⟨rfl, rfl⟩ | ⟨rfl, rfl⟩ | ⟨rfl, rfl⟩ | ⟨rfl, rfl⟩ | ⟨rfl, rfl⟩ | ⟨rfl, rfl⟩ | ⟨rfl, rfl⟩ | ⟨rfl, rfl⟩ | ⟨rfl, rfl⟩ | ⟨rfl, rfl⟩ | ⟨rfl, rfl⟩
    · show detL 4 [[a + z * e, b + z * f, c + z * g, d + z * k], [e, f, g, k], [l, o, p, q], [r, s, t, u]] = _
      rw [detL4, detL4]
      unfold D4 D3 D2
      grind
    · show detL 4 [[a + z * l, b + z * o, c + z * p, d + z * q], [e, f, g, k], [l, o, p, q], [r, s, t, u]] = _
      rw [detL4, detL4]
      unfold D4 D3 D2
      grind
    · show detL 4 [[a + z * r, b + z * s, c + z * t, d + z * u], [e, f, g, k], [l, o, p, q], [r, s, t, u]] = _
      rw [detL4, detL4]
      unfold D4 D3 D2
      grind
    · show detL 4 [[a, b, c, d], [e + z * a, f + z * b, g + z * c, k + z * d], [l, o, p, q], [r, s, t, u]] = _
      rw [detL4, detL4]
      unfold D4 D3 D2
      grind
    · show detL 4 [[a, b, c, d], [e + z * l, f + z * o, g + z * p, k + z * q], [l, o, p, q], [r, s, t, u]] = _
      rw [detL4, detL4]
      unfold D4 D3 D2
      grind
    · show detL 4 [[a, b, c, d], [e + z * r, f + z * s, g + z * t, k + z * u], [l, o, p, q], [r, s, t, u]] = _
      rw [detL4, detL4]
      unfold D4 D3 D2
      grind
    · show detL 4 [[a, b, c, d], [e, f, g, k], [l + z * a, o + z * b, p + z * c, q + z * d], [r, s, t, u]] = _
      rw [detL4, detL4]
      unfold D4 D3 D2
      grind
    · show detL 4 [[a, b, c, d], [e, f, g, k], [l + z * e, o + z * f, p + z * g, q + z * k], [r, s, t, u]] = _
      rw [detL4, detL4]
      unfold D4 D3 D2
      grind
    · show detL 4 [[a, b, c, d], [e, f, g, k], [l + z * r, o + z * s, p + z * t, q + z * u], [r, s, t, u]] = _
      rw [detL4, detL4]
      unfold D4 D3 D2
      grind
    · show detL 4 [[a, b, c, d], [e, f, g, k], [l, o, p, q], [r + z * a, s + z * b, t + z * c, u + z * d]] = _
      rw [detL4, detL4]
      unfold D4 D3 D2
      grind
    · show detL 4 [[a, b, c, d], [e, f, g, k], [l, o, p, q], [r + z * e, s + z * f, t + z * g, u + z * k]] = _
      rw [detL4, detL4]
      unfold D4 D3 D2
      grind
    · show detL 4 [[a, b, c, d], [e, f, g, k], [l, o, p, q], [r + z * l, s + z * o, t + z * p, u + z * q]] = _
      rw [detL4, detL4]
      unfold D4 D3 D2
      grind
theorem uniT_step {n t i k : Nat} {m : List (List Int)} {c : Int} (h : UniT n t m) (h4 : n ≤ 4) (hi : i < n) (hk : k < n) (hc : c.natAbs ≤ 2) : UniT n (t + 1) (stepM m i k c) := by
  obtain ⟨_, mi, li⟩ := uniT_row h hi
  obtain ⟨_, mk, lk⟩ := uniT_row h hk
  have p3 : 3 ^ (t + 1) = 3 * 3 ^ t := by rw [Nat.pow_succ, Nat.mul_comm]
  unfold stepM
  by_cases e : i = k
  · rw [if_pos e]
    refine ⟨sz_set h.sz (by unfold negR; rw [List.length_map]; exact li), fun r hr => ?_, by rw [det_neg1 h.sz h4 hi, Int.natAbs_neg]; exact h.det⟩
    rw [p3]
    rcases List.mem_or_eq_of_mem_set hr with hr | rfl
    · have := h.l1 r hr
      omega
    · rw [l1_neg]
      have := h.l1 _ mi
      omega
  · rw [if_neg e]
    refine ⟨sz_set h.sz (zipR_len li lk), fun r hr => ?_, by rw [det_zip1 h.sz h4 hi hk e]; exact h.det⟩
    rw [p3]
    rcases List.mem_or_eq_of_mem_set hr with hr | rfl
    · have := h.l1 r hr
      omega
    · have h1 := l1_zip hc (x := m.getD i []) (y := m.getD k []) (by omega)
      have h2 := h.l1 _ mi
      have h3 := h.l1 _ mk
      omega
def unitU (n i : Nat) : List Int := (List.range n).map fun j => if i = j then 1 else 0
theorem unitU_len {n i : Nat} : (unitU n i).length = n := by
  unfold unitU
  rw [List.length_map, List.length_range]
def unitM (n : Nat) : List (List Int) := (List.range n).map (unitU n)
theorem unitM_len {n : Nat} : (unitM n).length = n := by
  unfold unitM
  rw [List.length_map, List.length_range]
theorem uniT_unit {n : Nat} (h4 : n ≤ 4) : UniT n 0 (unitM n) := by
  refine ⟨⟨unitM_len, fun r hr => ?_⟩, ?_, ?_⟩
  · obtain ⟨i, _, rfl⟩ := List.mem_map.mp hr
    exact unitU_len
  · rcases (show n = 0 ∨ n = 1 ∨ n = 2 ∨ n = 3 ∨ n = 4 by omega) with rfl | rfl | rfl | rfl | rfl <;> decide
  · rcases (show n = 0 ∨ n = 1 ∨ n = 2 ∨ n = 3 ∨ n = 4 by omega) with rfl | rfl | rfl | rfl | rfl <;> decide
theorem uniT_up {n t u : Nat} {m : List (List Int)} (h : UniT n t m) (hu : t ≤ u) : UniT n u m := ⟨h.sz, fun r hr => Nat.le_trans (h.l1 r hr) (Nat.pow_le_pow_right (by decide) hu), h.det⟩

end
end K06
namespace K06
open PySem PySem.Spec PyProof.Rows L2 Gm
open C8 (Cal Met Mak pe_c pe_mt pe_mt0 pe_mk)
section
variable {P : Program} {w : World} {K : PySem.W.Frag} {mg : Str → Option Value} {base : Heap}
theorem StAt.offr {p q : Addr} {H : Hp} {o : HO} (n : q ≠ p) (h : StAt H p) : StAt (upd H q o) p := let ⟨s, t, e, h0⟩ := h; ⟨s, t, by rw [L2.upd_ne (Ne.symm n)]; exact e, h0⟩
theorem StAt.same {p : Addr} {H H' : Hp} (s : Same H H') (h : StAt H p) : StAt H' p := let ⟨a, t, e, h0⟩ := h; ⟨a, t, s _ _ e, h0⟩
theorem StAt.ne {p q : Addr} {H : Hp} (h : StAt H p) (n : H q = none) : p ≠ q := let ⟨_, _, e, _⟩ := h; ne_of_none e n
theorem trowsS {K : PySem.W.Frag} {H H' : Hp} {p : Addr} {v : V} {m : List (List Int)} (st : StAt H p) (o : Off p H H') (h : TRows K H v m) : TRows K H' v m := by
  obtain ⟨_, _, el, _⟩ := st
  obtain ⟨a, ws, e, ha, hp⟩ := h
  refine ⟨a, ws, e, ?_, L2.Paired.mapP hp fun _ _ h => TRow.off el o h⟩
  rcases ha with (ha | ⟨x, ha⟩) | ha
  · exact .inl (.inl (o _ _ (ne_of ha el (by intro z; cases z)) ha))
  · exact .inl (.inr ⟨x, o _ _ (ne_of ha el (by intro z; cases z)) ha⟩)
  · exact .inr ha
def sp_law_unit (K : PySem.W.Frag) : Sp := fun vs H Q _ => ∃ n : Nat, vs = [.int n] ∧ n ≤ 1000 ∧ ∀ v H', Same H H' → TRows K H' v (unitM n) → Q v H'
theorem ok_law_unit (T : Top K mg) (hN : base.NoSeer) (hT : P.given.tree = none) : FnOk P w K mg base CX0 1 T.a_law_unit T.d_law_unit ["n"] (sp_law_unit K) := by
  refine T.F_law_unit.ok sc_law_unit (fun vs H Q E h => ?_) (fun cdv A outer s H vs Q E hr h => ?_)
  · obtain ⟨n, rfl, _⟩ := h
    rfl
  · obtain ⟨n, rfl, hn, q⟩ := h
    refine ⟨_, (pss_one (ps_ret (pe_callTy (tupK K rfl) (by rfl) T.z_tuple (by decide +kernel) (pa_cons (pe_lc (own := [("i", 1)]) (g := (gName 1)) (by rfl) sc_law_unit.nd (pi_range1 (by rfl) T.z_range (pa_cons (pv 0) pa_nil)) ((by show BlkOk ["n", "i", "k"] (defScope s_law_unit) _ _; exact blkOk_by (by decide +kernel))) (fun _ _ _ _ _ => (pg_name (i := 1) sc_law_unit.nd rfl (by first | exact .inl rfl | exact .inr rfl))) (fun _ _ _ _ _ => pts_nil) (fun _ _ _ _ _ => (pe_callTy (tupK K rfl) (by rfl) T.z_tuple (by decide +kernel) (pa_cons (pe_lc (own := [("k", 2)]) (g := (gName 2)) (by rfl) sc_law_unit.nd (pi_range1 (by rfl) T.z_range (pa_cons (pv 0) pa_nil)) ((by show BlkOk ["n", "i", "k"] (relS _ (defScope s_law_unit)) _ _; exact blkOk_by (by decide +kernel))) (fun _ _ _ _ _ => (pg_name (i := 2) sc_law_unit.nd rfl (by first | exact .inl rfl | exact .inr rfl))) (fun _ _ _ _ _ => pts_nil) (fun _ _ _ _ _ => (pe_callTy (call_int1) (by rfl) T.z_int (by decide +kernel) (pa_cons (pe_cmpR op_eq (pv 1) (pv 2) (nomark _)) pa_nil)))) pa_nil)))) pa_nil)))), ?_⟩
    refine ⟨_, rfl, (n : Int), rfl, by omega, by omega, fun D1 hD1 => ?_⟩
    rw [show ((n : Int)).toNat = n from Int.toNat_natCast _]
    refine lc_all walk_range hD1 (by omega) (fun _ _ => trivial) (fun i v H2 => ∃ r, (unitM n)[i]? = some r ∧ TRow K H2 v r) (fun i v H4 H5 acc e o ⟨r, er, h⟩ => ⟨r, er, TRow.off e o h⟩) ?_ gm_name ?_
    · rintro i x H2 H2' acc Ko hi s2 eD ⟨rfl, rfl⟩ k
      refine ⟨rfl, ?_⟩
      refine ⟨_, rfl, (n : Int), rfl, by omega, by omega, fun D3 hD3 => ?_⟩
      rw [show ((n : Int)).toNat = n from Int.toNat_natCast _]
      refine lc_all walk_range hD3 (by omega) (fun _ _ => trivial) (fun j v _ => ∃ z, (unitU n i)[j]? = some z ∧ v = .int z) (fun _ _ _ _ _ _ _ h => h) ?_ gm_name ?_
      · rintro j y H4 H4' acc4 Ko4 hj s4 eD4 ⟨rfl, rfl⟩ k4
        refine ⟨rfl, ?_⟩
        refine ⟨_, rfl, _, rfl, rfl, .inr ⟨_, rfl, ?_⟩⟩
        refine k4 _ _ (Same.refl _) ⟨if i = j then 1 else 0, by unfold unitU; rw [List.getElem?_map, List.getElem?_range hj]; rfl, ?_⟩
        by_cases h : i = j
        · rw [if_pos h, if_pos (decide_eq_true (by rw [h]))]
        · rw [if_neg h, if_neg (by rw [decide_eq_false (fun z => h (by have := V.int.inj z; omega))]; decide)]
      · intro H4 l4 s4 eD4 hp4
        have el := ints_list (by rw [unitU_len]) hp4
        subst el
        refine ⟨D3, _, rfl, .inl ⟨.inl (.inl eD4), fun t nt => ?_⟩⟩
        exact k _ _ (s4.trans (same_upd nt)) ⟨unitU n i, by unfold unitM; rw [List.getElem?_map, List.getElem?_range hi]; rfl, t, rfl, .inl (.inl upd_same)⟩
    · intro H2 l s2 eD hpl
      refine ⟨D1, l, rfl, .inl ⟨.inl (.inl eD), fun t nt => ?_⟩⟩
      refine q _ _ (s2.trans (same_upd nt)) ⟨t, l, rfl, .inl (.inl upd_same), ?_⟩
      exact L2.Paired.mapP (paired_at (m := unitM n) (by rw [unitM_len]) hpl) fun _ _ => TRow.same (same_upd nt)
theorem cal_law_unit (T : Top K mg) (hN : base.NoSeer) (hT : P.given.tree = none) : Cal P w K mg base 1 "_law_unit" (sp_law_unit K) [] := ⟨⟨_, _, _, [], ok_law_unit T hN hT, T.g_law_unit, T.F_law_unit.kp, T.b_law_unit, .nil⟩⟩
def sp_law_step (K : PySem.W.Frag) : Sp := fun vs H Q _ => ∃ (v : V) (m : List (List Int)) (n i k t : Nat) (c : Int), vs = [v, .int i, .int k, .int c] ∧ TRows K H v m ∧ UniT n t m ∧ t ≤ 6 ∧ n ≤ 4 ∧ i < n ∧ k < n ∧ c.natAbs ≤ 2 ∧ ∀ v' H', Same H H' → TRows K H' v' (stepM m i k c) → Q v' H'
theorem ok_law_step (T : Top K mg) (hN : base.NoSeer) (hT : P.given.tree = none) : FnOk P w K mg base CX0 1 T.a_law_step T.d_law_step ["rows", "i", "k", "factor"] (sp_law_step K) := by
  refine T.F_law_step.ok sc_law_step (fun vs H Q E h => ?_) (fun cdv A outer s H vs Q E hr h => ?_)
  · obtain ⟨v, m, n, i, k, t, c, rfl, _⟩ := h
    rfl
  · obtain ⟨v, m, n, i, k, t, c, rfl, hv, U, ht, n4, hi, hk, hc, q⟩ := h
    obtain ⟨a, ws, rfl, ha, hp⟩ := id hv
    have lws := Paired.length hp
    have lm := U.sz.len
    obtain ⟨ei, mi, li⟩ := uniT_row U hi
    obtain ⟨ek, mk, lk⟩ := uniT_row U hk
    have bnd : ∀ r ∈ m, ∀ z ∈ r, z.natAbs < 2 ^ 10 := fun r hr z hz => by
      have h1 := l1_at hz
      have h2 := U.l1 r hr
      have h3 : 3 ^ t ≤ 3 ^ 6 := Nat.pow_le_pow_right (by decide) ht
      omega
    refine ⟨_, (pss_cons (ps_set (i := 4) sc_law_step.nd rfl (by first | exact .inl rfl | exact .inr rfl) (pe_callTy (listK K rfl) (by rfl) T.z_list (by decide +kernel) (pa_cons (pv 0) pa_nil)))
      (pss_cons (ps_if (pt_cmpR op_eq (pv 1) (pv 2) (nomark _))
      (pss_one (ps_asg (pe_callTy (tupK K rfl) (by rfl) T.z_tuple (by decide +kernel) (pa_cons (pe_lc (own := [("x", 5)]) (g := (gName 5)) (by rfl) sc_law_step.nd (piS K rfl (pe_ix (ixT K rfl) (pv 0) (pv 1) (fun _ _ => rfl))) ((by show BlkOk ["rows", "i", "k", "factor", "out", "x", "y"] (defScope s_law_step) _ _; exact blkOk_by (by decide +kernel))) (fun _ _ _ _ _ => (pg_name (i := 5) sc_law_step.nd rfl (by first | exact .inl rfl | exact .inr rfl))) (fun _ _ _ _ _ => pts_nil) (fun _ _ _ _ _ => (pe_un un_neg (pv 5)))) pa_nil)) (pg_sub (pv 4) (pv 1) set_list)))
      (pss_one (ps_asg (pe_callTy (tupK K rfl) (by rfl) T.z_tuple (by decide +kernel) (pa_cons (pe_lc (own := [("x", 5), ("y", 6)]) (g := (gTup K 2 (gCons (gName 5) (gCons (gName 6) gNil)))) (by rfl) sc_law_step.nd (RZ.pi_zipA (by rfl) T.z_zip (pa_cons (pe_ix (ixT K rfl) (pv 0) (pv 1) (fun _ _ => rfl)) (pa_cons (pe_ix (ixT K rfl) (pv 0) (pv 2) (fun _ _ => rfl)) pa_nil))) ((by show BlkOk ["rows", "i", "k", "factor", "out", "x", "y"] (defScope s_law_step) _ _; exact blkOk_by (by decide +kernel))) (fun _ _ _ _ _ => (pg_tup rfl (pgs_cons (pg_name (i := 5) sc_law_step.nd rfl (by first | exact .inl rfl | exact .inr rfl)) (pgs_cons (pg_name (i := 6) sc_law_step.nd rfl (by first | exact .inl rfl | exact .inr rfl)) pgs_nil)))) (fun _ _ _ _ _ => pts_nil) (fun _ _ _ _ _ => (pe_op op_add (pv 5) (pe_op op_mulX (pv 3) (pv 6))))) pa_nil)) (pg_sub (pv 4) (pv 1) set_list))))
      (pss_one (ps_ret (pe_callTy (tupK K rfl) (by rfl) T.z_tuple (by decide +kernel) (pa_cons (pv 4) pa_nil)))))), ?_⟩
    refine ⟨_, rfl, a, ws, rfl, .inr ha, fun L nL => ?_⟩
    have s1 := same_upd (o := .lst ws) nL
    have eL : (upd H L (.lst ws)) L = some (.lst ws) := upd_same
    have ha1 := Same.seqT s1 ha
    have hp1 := L2.Paired.mapP hp fun _ _ => TRow.same s1
    generalize upd H L (.lst ws) = H1 at s1 eL ha1 hp1 ⊢
    obtain ⟨vi, evi, pi, rfl, hpi⟩ := Paired.getL hp1 ei
    obtain ⟨vk, evk, pk, rfl, hpk⟩ := Paired.getL hp1 ek
    -- the end
    have fin : ∀ (tp : Addr) (H2 : Hp) (r' : List Int), Same H1 H2 → TRow K H2 (.ref tp) r' → stepM m i k c = m.set i r' → ∀ y4 y5 y6 : Option V, True → ∀ tq, (upd H2 L (.lst (ws.set i (.ref tp)))) tq = none → TRows K (upd (upd H2 L (.lst (ws.set i (.ref tp)))) tq (.tup (ws.set i (.ref tp)))) (.ref tq) (stepM m i k c) ∧ Same H (upd (upd H2 L (.lst (ws.set i (.ref tp)))) tq (.tup (ws.set i (.ref tp)))) := fun tp H2 r' s2 hr' e _ _ _ _ tq ntq => by
      have hL2 := s2 _ _ eL
      have oL : Off L H2 (upd H2 L (.lst (ws.set i (.ref tp)))) := Off.upd
      have s3 := same_upd (o := .tup (ws.set i (.ref tp))) ntq
      refine ⟨⟨tq, _, rfl, .inl (.inl upd_same), ?_⟩, fun b o eb => s3 _ _ ?_⟩
      · rw [e]
        refine paired_set (TRow.same s3 (TRow.off hL2 oL hr')) i (L2.Paired.mapP hp1 fun _ _ h => TRow.same s3 (TRow.off hL2 oL (TRow.same s2 h)))
      · have nb : b ≠ L := ne_of_none eb nL
        rw [L2.upd_ne nb]
        exact s2 _ _ (s1 _ _ eb)
    refine ⟨_, rfl, _, rfl, rfl, _, rfl, ?_⟩
    by_cases hij : V.int (i : Int) = V.int (k : Int)
    · rw [decide_eq_true hij]
      refine iteT ?_
      have eik : i = k := by have := V.int.inj hij; omega
      refine ⟨_, rfl, _, rfl, a, ws, _, _, rfl, rfl, ha1, at_of (j := i) rfl evi, pi, _, rfl, .inr hpi, fun J1 G1 W1 hG1 D1 hD1 => ?_⟩
      refine lc_all W1 hD1 (by rw [List.length_map]; omega) (fun Ha sa => hG1 Ha fun b _ o => sa b o) (fun j v _ => ∃ z, (negR (m.getD i []))[j]? = some z ∧ v = .int z) (fun _ _ _ _ _ _ _ h => h) ?_ gm_name ?_
      · rintro j y Ha Ha' acc Ko hj sa eDa ⟨rfl, ey⟩ kk
        obtain ⟨z, ez, rfl⟩ := ints_get ey
        refine ⟨rfl, _, rfl, _, rfl, ?_⟩
        exact kk _ _ (Same.refl _) ⟨-z, by unfold negR; rw [List.getElem?_map, ez]; rfl, rfl⟩
      · intro Ha la sa eDa hpa
        have el := ints_list (by unfold negR; rw [List.length_map, List.length_map]) hpa
        subst el
        refine ⟨D1, _, rfl, .inl ⟨.inl (.inl eDa), fun tp ntp => ?_⟩⟩
        have s5 := sa.trans (same_upd (o := .tup ((negR (m.getD i [])).map V.int)) ntp)
        refine ⟨_, rfl, _, rfl, L, ws, _, i, rfl, rfl, s5 _ _ eL, ixN_nat (by omega), ?_⟩
        refine ⟨_, rfl, L, _, rfl, .inl ⟨.inl (.inl upd_same), fun tq ntq => ?_⟩⟩
        obtain ⟨f1, f2⟩ := fin tp _ (negR (m.getD i [])) s5 ⟨tp, rfl, .inl (.inl upd_same)⟩ (by unfold stepM; rw [if_pos eik]) none none none trivial tq ntq
        exact q _ _ f2 f1
    · rw [decide_eq_false hij]
      refine iteF ?_
      have eik : i ≠ k := fun e => hij (by rw [e])
      refine ⟨_, rfl, _, rfl, a, ws, _, _, rfl, rfl, ha1, at_of (j := i) rfl evi, _, rfl, _, rfl, a, ws, _, _, rfl, rfl, ha1, at_of (j := k) rfl evk, ?_⟩
      refine ⟨pi, pk, _, _, rfl, .inr ⟨hpi, hpk, fun D1 hD1 => ?_⟩⟩
      have W1 : Walk (RZ.ItzT K pi pk) n (fun H => SqT K H pi ((m.getD i []).map V.int) ∧ SqT K H pk ((m.getD k []).map V.int)) (YPair (fun j => ((m.getD i []).map V.int)[j]?) (fun j => ((m.getD k []).map V.int)[j]?)) := walk_zipT (by rw [List.length_map, List.length_map, li, lk, Nat.min_self])
      refine lc_all W1 hD1 (by omega) (fun Ha sa => ⟨Same.seqT sa hpi, Same.seqT sa hpk⟩) (fun j v _ => ∃ z, (zipR c (m.getD i []) (m.getD k []))[j]? = some z ∧ v = .int z) (fun _ _ _ _ _ _ _ h => h) ?_ gm_pair ?_
      · rintro j z Ha Ha' acc Ko hj sa eDa ⟨U2, x1, x2, rfl, nU, rfl, e1, e2⟩ kk
        obtain ⟨z1, ez1, rfl⟩ := ints_get e1
        obtain ⟨z2, ez2, rfl⟩ := ints_get e2
        refine g_pair nU ⟨rfl, ?_⟩
        refine ⟨_, rfl, _, rfl, _, rfl, _, _, rfl, rfl, mulx_ok (show c.natAbs < 2 ^ 10 by omega) (bnd _ mk z2 (List.mem_of_getElem? ez2)) (by decide), ?_⟩
        refine ⟨_, _, rfl, rfl, ?_⟩
        refine kk _ _ (same_upd nU) ⟨z1 + c * z2, ?_, rfl⟩
        unfold zipR
        rw [List.getElem?_zipWith, ez1, ez2]
      · intro Ha la sa eDa hpa
        have el := ints_list (by rw [zipR_len li lk]) hpa
        subst el
        refine ⟨D1, _, rfl, .inl ⟨.inl (.inl eDa), fun tp ntp => ?_⟩⟩
        have s5 := sa.trans (same_upd (o := .tup ((zipR c (m.getD i []) (m.getD k [])).map V.int)) ntp)
        refine ⟨_, rfl, _, rfl, L, ws, _, i, rfl, rfl, s5 _ _ eL, ixN_nat (by omega), ?_⟩
        refine ⟨_, rfl, L, _, rfl, .inl ⟨.inl (.inl upd_same), fun tq ntq => ?_⟩⟩
        obtain ⟨f1, f2⟩ := fin tp _ (zipR c (m.getD i []) (m.getD k [])) s5 ⟨tp, rfl, .inl (.inl upd_same)⟩ (by unfold stepM; rw [if_neg eik]) none none none trivial tq ntq
        exact q _ _ f2 f1
theorem cal_law_step (T : Top K mg) (hN : base.NoSeer) (hT : P.given.tree = none) : Cal P w K mg base 1 "_law_step" (sp_law_step K) [] := ⟨⟨_, _, _, [], ok_law_step T hN hT, T.g_law_step, T.F_law_step.kp, T.b_law_step, .nil⟩⟩
def sp_law_unimodular_t (K : PySem.W.Frag) : Sp := fun vs H Q _ => ∃ (p : Addr) (n : Nat), vs = [.ref p, .int n] ∧ StAt H p ∧ n ≤ 4 ∧ ∀ v m H', Off p H H' → StAt H' p → TRows K H' v m → UniT n 4 m → Q v H'
theorem ok_law_unimodular_t (T : Top K mg) (hN : base.NoSeer) (hT : P.given.tree = none) : FnOk P w K mg base CX0 2 T.a_law_unimodular T.d_law_unimodular ["state", "n"] (sp_law_unimodular_t K) := by
  refine T.F_law_unimodular.ok sc_law_unimodular (fun vs H Q E h => ?_) (fun cdv A outer s H vs Q E hr h => ?_)
  · obtain ⟨p, n, rfl, _⟩ := h
    rfl
  · obtain ⟨p, n, rfl, st, n4, q⟩ := h
    refine ⟨_, (pss_cons (ps_set (i := 2) sc_law_unimodular.nd rfl (by first | exact .inl rfl | exact .inr rfl) (pe_c (cal_law_unit T hN hT) hr (by decide) (by rfl) (pa_cons (pv 1) pa_nil)))
      (pss_cons (ps_if (pt_cmpR op_eq (pv 1) pe_int (nomark _))
      (pss_one (ps_ret (pv 2)))
      pss_nil)
      (pss_cons (ps_for PassesOwn.never rfl (pi_range1 (by rfl) T.z_range (pa_cons (pe_op op_add pe_int (pe_c (cal_law_take T hN hT) hr (by decide) (by rfl) (pa_cons (pv 0) (pa_cons pe_int pa_nil)))) pa_nil)) (pg_name (i := 3) sc_law_unimodular.nd rfl (by first | exact .inl rfl | exact .inr rfl))
      (pss_one (ps_set (i := 2) sc_law_unimodular.nd rfl (by first | exact .inl rfl | exact .inr rfl) (pe_c (cal_law_step T hN hT) hr (by decide) (by rfl) (pa_cons (pv 2) (pa_cons (pe_c (cal_law_take T hN hT) hr (by decide) (by rfl) (pa_cons (pv 0) (pa_cons (pv 1) pa_nil))) (pa_cons (pe_c (cal_law_take T hN hT) hr (by decide) (by rfl) (pa_cons (pv 0) (pa_cons (pv 1) pa_nil))) (pa_cons (pe_op op_sub (pe_c (cal_law_take T hN hT) hr (by decide) (by rfl) (pa_cons (pv 0) (pa_cons pe_int pa_nil))) pe_int) pa_nil))))))))
      (pss_one (ps_ret (pv 2)))))), ?_⟩
    refine ⟨_, rfl, n, rfl, by omega, fun v H1 s1 h1 => ?_⟩
    refine ⟨_, rfl, rfl, _, rfl, ?_⟩
    by_cases h0 : n = 0
    · rw [show decide (V.int (n : Int) = V.int 0) = true from decide_eq_true (by rw [h0]; rfl)]
      refine iteT ?_
      exact ⟨_, rfl, q _ _ _ (Same.off s1) (st.same s1) h1 (uniT_up (uniT_unit n4) (by omega))⟩
    · rw [show decide (V.int (n : Int) = V.int 0) = false from decide_eq_false fun z => h0 (by have := V.int.inj z; omega)]
      refine iteF ?_
      refine ⟨_, rfl, p, 4, rfl, st.same s1, by decide, by decide, fun r H2 hr2 o2 st2 => ⟨_, _, rfl, rfl, ?_⟩⟩
      obtain ⟨t, ht, ht4⟩ : ∃ t : Nat, 1 + (r : Int) = (t : Int) ∧ t ≤ 4 := ⟨1 + r, by omega, by omega⟩
      refine ⟨(t : Int), congrArg (fun z => [V.int z]) ht, by omega, by omega, ?_⟩
      rw [show ((t : Int)).toNat = t from Int.toNat_natCast _]
      refine for_it walk_range (fun j σ H3 => ∃ (v : V) (m : List (List Int)) (y3 : Option V), σ = [some (.ref p), some (.int n), some v, y3] ∧ Off p H H3 ∧ StAt H3 p ∧ TRows K H3 v m ∧ UniT n j m) ⟨v, unitM n, none, rfl, Off.trans (Same.off s1) o2, st2, trowsS (st.same s1) o2 h1, uniT_unit n4⟩ (fun _ _ _ _ _ => trivial) ?_ ?_
      · rintro j x σ H3 H3' hj ⟨v, m, y3, rfl, o3, st3, hv, U⟩ ⟨rfl, rfl⟩
        have n0 : 0 < n := by omega
        refine ⟨_, rfl, _, rfl, _, rfl, p, n, rfl, st3, n0, by omega, fun i H4 hi o4 st4 => ?_⟩
        refine ⟨_, rfl, _, rfl, p, n, rfl, st4, n0, by omega, fun k H5 hk o5 st5 => ?_⟩
        refine ⟨_, rfl, p, 5, rfl, st5, by decide, by decide, fun c H6 hc o6 st6 => ⟨_, _, rfl, rfl, ?_⟩⟩
        have o36 := Off.trans o4 (Off.trans o5 o6)
        refine ⟨v, m, n, i, k, j, (c : Int) - 2, rfl, trowsS st3 o36 hv, U, by omega, n4, hi, hk, by omega, fun v' H7 s7 h7 => ?_⟩
        exact ⟨v', _, _, rfl, Off.trans o3 (Off.trans o36 (Same.off s7)), st6.same s7, h7, uniT_step U n4 hi hk (by omega)⟩
      · rintro σ H3 ⟨v, m, y3, rfl, o3, st3, hv, U⟩
        exact ⟨_, rfl, q _ _ _ o3 st3 hv (uniT_up U ht4)⟩
theorem cal_law_unimodular (T : Top K mg) (hN : base.NoSeer) (hT : P.given.tree = none) : Cal P w K mg base 2 "_law_unimodular" (sp_law_unimodular_t K) [] := ⟨⟨_, _, _, [], ok_law_unimodular_t T hN hT, T.g_law_unimodular, T.F_law_unimodular.kp, T.b_law_unimodular, .nil⟩⟩

end
end K06
namespace K06
open PySem PySem.Spec PyProof.Rows L2 Gm
open C8 (Cal Met Mak pe_c pe_mt pe_mt0 pe_mk)
section
variable {P : Program} {w : World} {K : PySem.W.Frag} {mg : Str → Option Value} {base : Heap}
/-! ### diagonal, unit -/
def diagM (ns : List Int) : List (List Int) := (List.range ns.length).map fun i => (List.range ns.length).map fun j => if i = j then ns.getD i 0 else 0
theorem diagM_len (ns : List Int) : (diagM ns).length = ns.length := by
  unfold diagM
  rw [List.length_map, List.length_range]
theorem diagM_row {ns : List Int} : ∀ r ∈ diagM ns, r.length = ns.length := fun r hr => by
  unfold diagM at hr
  obtain ⟨i, _, rfl⟩ := List.mem_map.mp hr
  rw [List.length_map, List.length_range]
theorem diagM_get {ns : List Int} {i : Nat} (h : i < ns.length) : (diagM ns).getD i [] = (List.range ns.length).map fun j => if i = j then ns.getD i 0 else 0 := by
  unfold diagM
  rw [List.getD_eq_getElem?_getD, List.getElem?_map, List.getElem?_range h]
  rfl
def sp_diagonal (K : PySem.W.Frag) (C : Addr) : Sp := fun vs H Q _ => ∃ v ns, vs = [v] ∧ IRow K H v ns ∧ ns.length ≤ 1000 ∧ ∀ g H', Same H H' → IsGrid K C H' g (diagM ns) ns.length → Q g H'
theorem ok_diagonal (T : Top K mg) (hN : base.NoSeer) (hT : P.given.tree = none) : FnOk P w K mg base CX0 5 T.a_diagonal T.d_diagonal ["numbers"] (sp_diagonal K T.C_Grid) := by
  refine T.F_diagonal.ok sc_diagonal (fun vs H Q E h => ?_) (fun cdv A outer s H vs Q E hr h => ?_)
  · obtain ⟨v, ns, rfl, _⟩ := h
    rfl
  · obtain ⟨v, ns, rfl, ⟨a, rfl, hs⟩, hl, q⟩ := h
    refine ⟨_, (pss_cons (ps_set (i := 1) sc_diagonal.nd rfl (by first | exact .inl rfl | exact .inr rfl) (pe_callTy (cr_range1) (by rfl) T.z_range (by decide +kernel) (pa_cons (pe_callB (lenS K rfl) (by rfl) T.z_len (by decide +kernel) (pa_cons (pv 0) pa_nil)) pa_nil)))
      (pss_one (ps_ret (pe_mk (mak_Grid T hN hT) hr (by decide) (by rfl) (pa_cons (pe_lc (own := [("i", 2)]) (g := (gName 2)) (by rfl) sc_diagonal.nd (pi_rngv (pv 1)) ((by show BlkOk ["numbers", "places", "i", "j"] (defScope s_diagonal) _ _; exact blkOk_by (by decide +kernel))) (fun _ _ _ _ _ => (pg_name (i := 2) sc_diagonal.nd rfl (by first | exact .inl rfl | exact .inr rfl))) (fun _ _ _ _ _ => pts_nil) (fun _ _ _ _ _ => (pe_lc (own := [("j", 3)]) (g := (gName 3)) (by rfl) sc_diagonal.nd (pi_rngv (pv 1)) ((by show BlkOk ["numbers", "places", "i", "j"] (relS _ (defScope s_diagonal)) _ _; exact blkOk_by (by decide +kernel))) (fun _ _ _ _ _ => (pg_name (i := 3) sc_diagonal.nd rfl (by first | exact .inl rfl | exact .inr rfl))) (fun _ _ _ _ _ => pts_nil) (fun _ _ _ _ _ => (pe_ifExp (pt_cmpR op_eq (pv 2) (pv 3) (nomark _)) (pe_ix (ixS K rfl) (pv 0) (pv 2) (fun _ _ => rfl)) pe_int))))) (pa_cons (pe_callB (lenS K rfl) (by rfl) T.z_len (by decide +kernel) (pa_cons (pv 0) pa_nil)) pa_nil)))))), ?_⟩
    refine ⟨_, rfl, a, _, rfl, hs, _, rfl, fun pr npr => ?_⟩
    have s1 : Same H (upd H pr (.rng 0 ((ns.map V.int).length : Nat))) := same_upd npr
    refine ⟨_, rfl, pr, _, _, rfl, upd_same, ⟨by decide, by decide, by rw [List.length_map]; omega, by rw [List.length_map]; omega⟩, fun D hD => ?_⟩
    refine lc_all walk_range hD (by rw [List.length_map]; omega) (fun _ _ => trivial) (fun i v H4 => ∃ p, v = V.ref p ∧ p ≠ D ∧ H4 p = some (.lst (((diagM ns).getD i []).map V.int))) lists_mono ?_ gm_name ?_
    · rintro i x H4 H4' acc Ko hi s4 eD ⟨rfl, rfl⟩ k
      rw [List.length_map] at hi
      have hi' : i < ns.length := by omega
      refine ⟨rfl, ?_⟩
      have epr : H4' pr = some (.rng 0 ((ns.map V.int).length : Nat)) := s4 _ _ upd_same
      refine ⟨_, rfl, pr, _, _, rfl, epr, ⟨by decide, by decide, by rw [List.length_map]; omega, by rw [List.length_map]; omega⟩, fun D2 hD2 => ?_⟩
      refine lc_all walk_range hD2 (by rw [List.length_map]; omega) (fun _ _ => trivial) (fun j v _ => ∃ z, ((diagM ns).getD i [])[j]? = some z ∧ v = .int z) (fun _ _ _ _ _ _ _ h => h) ?_ gm_name ?_
      · rintro j y H5 H5' acc2 Ko2 hj s5 eD2 ⟨rfl, rfl⟩ k2
        rw [List.length_map] at hj
        have hj' : j < ns.length := by omega
        refine ⟨rfl, ?_⟩
        refine ⟨_, rfl, _, rfl, rfl, _, rfl, ?_⟩
        by_cases h : i = j
        · subst h
          rw [decide_eq_true rfl]
          refine iteT ?_
          refine ⟨_, rfl, _, rfl, ?_⟩
          refine rIx_seq (hs.same (s1.trans (s4.trans s5))) (at_of (j := i) (by omega) (ints_at (List.getElem?_eq_getElem hi'))) ?_
          refine k2 _ _ (Same.refl _) ⟨ns[i], ?_, rfl⟩
          rw [diagM_get hi', List.getElem?_map, List.getElem?_range hi']
          show some (if i = i then ns.getD i 0 else 0) = some ns[i]
          rw [if_pos rfl, List.getD_eq_getElem?_getD, List.getElem?_eq_getElem hi']
          rfl
        · rw [show decide (V.int (0 + (i : Int)) = V.int (0 + (j : Int))) = false from decide_eq_false fun z => h (by have := V.int.inj z; omega)]
          refine iteF ?_
          refine k2 _ _ (Same.refl _) ⟨0, ?_, rfl⟩
          rw [diagM_get hi', List.getElem?_map, List.getElem?_range hj']
          show some (if i = j then ns.getD i 0 else 0) = some 0
          rw [if_neg h]
      · intro H5 l s5 eD2 hpl
        have el := ints_list (by rw [diagM_get hi', List.length_map, List.length_map, List.length_range]; omega) hpl
        refine k _ _ s5 ⟨D2, rfl, ?_, by rw [← el]; exact eD2⟩
        rintro rfl
        rw [eD] at hD2
        cases hD2
    · intro H4 l s4 eD hpl
      have hrows := lists_rows (K := K) (m := diagM ns) (by rw [diagM_len, List.length_map]; omega) eD hpl
      have sm := s1.trans s4
      refine ⟨_, rfl, a, _, rfl, hs.same sm, ?_⟩
      rw [List.length_map]
      exact make_grid hrows (by rw [diagM_len]; exact hl) hl diagM_row fun g H' s' G' => q g H' (sm.trans s') G'
theorem cal_diagonal (T : Top K mg) (hN : base.NoSeer) (hT : P.given.tree = none) : Cal P w K mg base 5 "diagonal" (sp_diagonal K T.C_Grid) [] := ⟨⟨_, _, _, [], ok_diagonal T hN hT, T.g_diagonal, T.F_diagonal.kp, T.b_diagonal, .nil⟩⟩

end
end K06
namespace K06
open PySem PySem.Spec PyProof.Rows L2 Gm
open C8 (Cal Met Mak pe_c pe_mt pe_mt0 pe_mk)
section
variable {P : Program} {w : World} {K : PySem.W.Frag} {mg : Str → Option Value} {base : Heap}
theorem rep_ints (c : Int) : ∀ n : Nat, (List.replicate n [V.int c]).flatten = (List.replicate n c).map V.int
  | 0 => rfl
  | n + 1 => by
    rw [List.replicate_succ, List.flatten_cons, rep_ints c n, List.replicate_succ]
    rfl
def sp_unit (K : PySem.W.Frag) (C : Addr) : Sp := fun vs H Q _ => ∃ n : Nat, vs = [.int n] ∧ n ≤ 1000 ∧ ∀ g H', Same H H' → IsGrid K C H' g (diagM (List.replicate n 1)) n → Q g H'
theorem ok_unit (T : Top K mg) (hN : base.NoSeer) (hT : P.given.tree = none) : FnOk P w K mg base CX0 6 T.a_unit T.d_unit ["n"] (sp_unit K T.C_Grid) := by
  refine T.F_unit.ok sc_unit (fun vs H Q E h => ?_) (fun cdv A outer s H vs Q E hr h => ?_)
  · obtain ⟨n, rfl, _⟩ := h
    rfl
  · obtain ⟨n, rfl, hn, q⟩ := h
    refine ⟨_, (pss_one (ps_ret (pe_c (cal_diagonal T hN hT) hr (by decide) (by rfl) (pa_cons (pe_op op_rep (pe_lst (pa_cons pe_int pa_nil)) (pv 0)) pa_nil)))), ?_⟩
    refine ⟨by show 1 ≤ sizeLine; decide, fun l nl => ?_⟩
    refine ⟨_, rfl, l, (n : Int), [.int 1], rfl, rfl, upd_same, by omega, by omega, ?_, fun p np => ?_⟩
    · rw [Int.toNat_natCast, List.length_singleton, Nat.one_mul]
      exact Nat.le_of_lt (small1000 hn)
    · have e : (List.replicate ((n : Int)).toNat [V.int 1]).flatten = (List.replicate n (1 : Int)).map V.int := by
        rw [Int.toNat_natCast]
        exact rep_ints 1 n
      rw [e]
      have s2 : Same H (upd (upd H l (.lst [.int 1])) p (.lst ((List.replicate n (1 : Int)).map V.int))) := (same_upd nl).trans (same_upd np)
      refine ⟨_, List.replicate n 1, rfl, ⟨p, rfl, .inl (.inl (.inl upd_same))⟩, by rw [List.length_replicate]; exact hn, fun g H' s' G => ?_⟩
      rw [List.length_replicate] at G
      exact q g H' (s2.trans s') G
theorem cal_unit (T : Top K mg) (hN : base.NoSeer) (hT : P.given.tree = none) : Cal P w K mg base 6 "unit" (sp_unit K T.C_Grid) [] := ⟨⟨_, _, _, [], ok_unit T hN hT, T.g_unit, T.F_unit.kp, T.b_unit, .nil⟩⟩
/-! ### sizes -/
def sp_check_same_size (K : PySem.W.Frag) (C : Addr) : Sp := fun vs H Q _ => ∃ v m w u m2, vs = [v, u] ∧ IsGrid K C H v m w ∧ IsGrid K C H u m2 w ∧ m.length = m2.length ∧ Q .non H

end
end K06
namespace K06
open PySem PySem.Spec PyProof.Rows L2 Gm
open C8 (Cal Met Mak pe_c pe_mt pe_mt0 pe_mk)
section
variable {P : Program} {w : World} {K : PySem.W.Frag} {mg : Str → Option Value} {base : Heap}
/-! ### gcd -/
def sp_law_gcd : Sp := fun vs H Q _ => ∃ (a b : Int), vs = [.int a, .int b] ∧ Q (.int (Nat.gcd a.natAbs b.natAbs : Nat)) H
theorem gcd_step (a b : Nat) : Nat.gcd b (a % b) = Nat.gcd a b := by
  rw [Nat.gcd_comm a b, Nat.gcd_rec b a, Nat.gcd_comm]
def muG : L2.St → Hp → Nat
  | [_, _, _, some (.int b), _], _ => b.toNat
  | _, _ => 0
theorem ok_law_gcd (T : Top K mg) (hN : base.NoSeer) (hT : P.given.tree = none) : FnOk P w K mg base CX0 1 T.a_law_gcd T.d_law_gcd ["a", "b"] sp_law_gcd := by
  refine T.F_law_gcd.ok sc_law_gcd (fun vs H Q E h => ?_) (fun cdv A outer s H vs Q E hr h => ?_)
  · obtain ⟨a, b, rfl, _⟩ := h
    rfl
  · obtain ⟨a, b, rfl, q⟩ := h
    refine ⟨_, (pss_cons (ps_set (i := 2) sc_law_gcd.nd rfl (by first | exact .inl rfl | exact .inr rfl) (pe_callB (call_abs) (by rfl) T.z_abs (by decide +kernel) (pa_cons (pv 0) pa_nil)))
      (pss_cons (ps_set (i := 3) sc_law_gcd.nd rfl (by first | exact .inl rfl | exact .inr rfl) (pe_callB (call_abs) (by rfl) T.z_abs (by decide +kernel) (pa_cons (pv 1) pa_nil)))
      (pss_cons (ps_while PassesOwn.never (pt_cmpR op_ne (pv 3) pe_int (nomark _))
      (pss_cons (ps_set (i := 4) sc_law_gcd.nd rfl (by first | exact .inl rfl | exact .inr rfl) (pe_op op_mod (pe_callTy (call_int1) (by rfl) T.z_int (by decide +kernel) (pa_cons (pv 2) pa_nil)) (pv 3)))
      (pss_cons (ps_set (i := 2) sc_law_gcd.nd rfl (by first | exact .inl rfl | exact .inr rfl) (pv 3))
      (pss_one (ps_set (i := 3) sc_law_gcd.nd rfl (by first | exact .inl rfl | exact .inr rfl) (pv 4))))))
      (pss_one (ps_ret (pv 2)))))), ?_⟩
    have ab : ∀ z : Int, (if z < 0 then -z else z) = ((z.natAbs : Nat) : Int) := fun z => by split <;> omega
    refine ⟨_, rfl, a, rfl, ?_⟩
    refine ⟨_, rfl, b, rfl, ?_⟩
    rw [ab, ab]
    refine while_by (fun σ H2 => H2 = H ∧ ∃ (c d : Nat) (y : Option V), σ = [some (.int a), some (.int b), some (.int (c : Int)), some (.int (d : Int)), y] ∧ Nat.gcd c d = Nat.gcd a.natAbs b.natAbs) muG ⟨rfl, _, _, _, rfl, rfl⟩ ?_ ?_
    · rintro σ H2 ⟨rfl, c, d, y, rfl, hg⟩
      refine ⟨_, rfl, rfl, ?_⟩
      by_cases h0 : d = 0
      · subst h0
        rw [Nat.gcd_zero_right] at hg
        refine ⟨_, rfl, ?_⟩
        refine iteF ?_
        refine ⟨_, rfl, ?_⟩
        show Q (.int (c : Int)) H2
        rw [hg]
        exact q
      · refine ⟨_, rfl, ?_⟩
        rw [show (!decide (V.int (d : Int) = V.int 0)) = true by rw [decide_eq_false fun z => h0 (by have := V.int.inj z; omega)]; rfl]
        refine iteT ?_
        refine ⟨_, rfl, .inl ⟨_, rfl, _, rfl, _, _, rfl, rfl, by show (0 : Int) < (d : Int); omega, ?_⟩⟩
        refine ⟨_, rfl, _, rfl, ⟨rfl, d, c % d, _, rfl, by rw [gcd_step]; exact hg⟩, ?_⟩
        show ((c : Int) % (d : Int)).toNat < ((d : Int)).toNat
        rw [← Int.natCast_emod, Int.toNat_natCast, Int.toNat_natCast]
        exact Nat.mod_lt _ (by omega)
    · intro σ H Q1 Q2 h1 ⟨v, ev, e2, b, eb, h2⟩
      exact ⟨v, ev, e2, b, eb, h1 _ _ h2⟩
theorem cal_law_gcd (T : Top K mg) (hN : base.NoSeer) (hT : P.given.tree = none) : Cal P w K mg base 1 "_law_gcd" sp_law_gcd [] := ⟨⟨_, _, _, [], ok_law_gcd T hN hT, T.g_law_gcd, T.F_law_gcd.kp, T.b_law_gcd, .nil⟩⟩
/-! ### choices -/
def chIn (k at' : Nat) (c : List Int) : List (List Int) := if c.length < k then [c, c ++ [(at' : Int)]] else [c]
def chStep (k at' : Nat) (cs : List (List Int)) : List (List Int) := cs.flatMap (chIn k at')
def chF (k : Nat) : Nat → List (List Int)
  | 0 => [[]]
  | n + 1 => chStep k n (chF k n)
def chAll (n k : Nat) : List (List Int) := (chF k n).filter fun c => decide (c.length = k)
theorem chIn_len (k at' : Nat) (c : List Int) : (chIn k at' c).length ≤ 2 := by
  unfold chIn
  split
  · exact Nat.le_refl _
  · exact Nat.le_succ _
theorem chStep_len (k at' : Nat) : ∀ (cs : List (List Int)), (chStep k at' cs).length ≤ 2 * cs.length
  | [] => Nat.le_refl _
  | c :: cs => by
    have h1 := chStep_len k at' cs
    have h2 := chIn_len k at' c
    show ((c :: cs).flatMap (chIn k at')).length ≤ 2 * (cs.length + 1)
    rw [List.flatMap_cons, List.length_append]
    have h3 : ((cs.flatMap (chIn k at')).length) ≤ 2 * cs.length := h1
    omega
theorem chF_len (k : Nat) : ∀ n, (chF k n).length ≤ 2 ^ n
  | 0 => Nat.le_refl _
  | n + 1 => by
    have h1 := chF_len k n
    have h2 := chStep_len k n (chF k n)
    show (chStep k n (chF k n)).length ≤ _
    rw [Nat.pow_succ]
    omega
theorem chStep_take {k at' i : Nat} {cs : List (List Int)} {c : List Int} (h : cs[i]? = some c) : chStep k at' (cs.take (i + 1)) = chStep k at' (cs.take i) ++ chIn k at' c := by
  unfold chStep
  rw [List.take_add_one, h, List.flatMap_append]
  show _ ++ (chIn k at' c ++ []) = _
  rw [List.append_nil]
theorem chItems (k : Nat) : ∀ n, ∀ c ∈ chF k n, c.length ≤ n
  | 0, c, h => by
    have : c = [] := by simpa [chF] using h
    rw [this]
    exact Nat.le_refl _
  | n + 1, c, h => by
    obtain ⟨c', hc', hi⟩ := List.mem_flatMap.mp (show c ∈ (chF k n).flatMap (chIn k n) from h)
    have h1 := chItems k n c' hc'
    unfold chIn at hi
    split at hi
    · simp only [List.mem_cons, List.not_mem_nil, or_false] at hi
      rcases hi with rfl | rfl
      · omega
      · rw [List.length_append]
        show c'.length + 1 ≤ n + 1
        omega
    · simp only [List.mem_cons, List.not_mem_nil, or_false] at hi
      rw [hi]
      omega
def TList (K : PySem.W.Frag) (H : Hp) (v : V) (cs : List (List Int)) : Prop := ∃ a ws, v = .ref a ∧ H a = some (.lst ws) ∧ Paired (TRow K H) ws cs
theorem TList.same {K : PySem.W.Frag} {H H' : Hp} {v : V} {cs : List (List Int)} (s : Same H H') (h : TList K H v cs) : TList K H' v cs := let ⟨a, ws, e, ha, hp⟩ := h; ⟨a, ws, e, s _ _ ha, L2.Paired.mapP hp fun _ _ => TRow.same s⟩
def sp_law_choices (K : PySem.W.Frag) : Sp := fun vs H Q _ => ∃ n k : Nat, vs = [.int n, .int k] ∧ n ≤ 4 ∧ k ≤ 4 ∧ ∀ v H', Same H H' → TList K H' v (chAll n k) → Q v H'
theorem ok_law_choices (T : Top K mg) (hN : base.NoSeer) (hT : P.given.tree = none) : FnOk P w K mg base CX0 1 T.a_law_choices T.d_law_choices ["n", "k"] (sp_law_choices K) := by
  refine T.F_law_choices.ok sc_law_choices (fun vs H Q E h => ?_) (fun cdv A outer s H vs Q E hr h => ?_)
  · obtain ⟨n, k, rfl, _⟩ := h
    rfl
  · obtain ⟨n, k, rfl, hn, hk, q⟩ := h
    refine ⟨_, (pss_cons (ps_set (i := 2) sc_law_choices.nd rfl (by first | exact .inl rfl | exact .inr rfl) (pe_lst (pa_cons (pe_tup pa_nil) pa_nil)))
      (pss_cons (ps_for PassesOwn.never rfl (pi_range1 (by rfl) T.z_range (pa_cons (pv 0) pa_nil)) (pg_name (i := 3) sc_law_choices.nd rfl (by first | exact .inl rfl | exact .inr rfl))
      (pss_cons (ps_set (i := 4) sc_law_choices.nd rfl (by first | exact .inl rfl | exact .inr rfl) (pe_lst pa_nil))
      (pss_cons (ps_for PassesOwn.never rfl (piS K rfl (pv 2)) (pg_name (i := 5) sc_law_choices.nd rfl (by first | exact .inl rfl | exact .inr rfl))
      (pss_cons (ps_expr (pe_bm PySem.F.plainAttrs_list PySem.F.slot_list_append PySem.F.type_list_append mt_append (pv 4) (pa_cons (pv 5) pa_nil)))
      (pss_one (ps_if (pt_cmpR op_lt (pe_callB (lenS K rfl) (by rfl) T.z_len (by decide +kernel) (pa_cons (pv 5) pa_nil)) (pv 1) (nomark _))
      (pss_one (ps_expr (pe_bm PySem.F.plainAttrs_list PySem.F.slot_list_append PySem.F.type_list_append mt_append (pv 4) (pa_cons (pe_op (catK K rfl) (pv 5) (pe_tup (pa_cons (pv 3) pa_nil))) pa_nil))))
      pss_nil))))
      (pss_one (ps_set (i := 2) sc_law_choices.nd rfl (by first | exact .inl rfl | exact .inr rfl) (pe_callTy (listK K rfl) (by rfl) T.z_list (by decide +kernel) (pa_cons (pv 4) pa_nil)))))))
      (pss_one (ps_ret (pe_lc (own := [("chosen", 5)]) (g := (gName 5)) (by rfl) sc_law_choices.nd (piS K rfl (pv 2)) ((by show BlkOk ["n", "k", "out", "at", "longer", "chosen"] (defScope s_law_choices) _ _; exact blkOk_by (by decide +kernel))) (fun _ _ _ _ _ => (pg_name (i := 5) sc_law_choices.nd rfl (by first | exact .inl rfl | exact .inr rfl))) (fun _ _ _ _ _ => (pts_one (pt_cmpR op_eq (pe_callB (lenS K rfl) (by rfl) T.z_len (by decide +kernel) (pa_cons (pv 5) pa_nil)) (pv 1) (nomark _)))) (fun _ _ _ _ _ => (pv 5))))))), ?_⟩
    refine ⟨by show 0 ≤ sizeLine; decide, fun t0 nt0 => ⟨by show 1 ≤ sizeLine; decide, fun O nO => ?_⟩⟩
    have s0 := same_upd (o := .tup []) nt0
    have s1 := same_upd (o := .lst [V.ref t0]) nO
    have hT0 : TList K (upd (upd H t0 (.tup [])) O (.lst [.ref t0])) (.ref O) (chF k 0) := ⟨O, _, rfl, upd_same, .cons ⟨t0, rfl, .inl (.inl (s1 _ _ upd_same))⟩ .nil⟩
    have s01 := s0.trans s1
    generalize upd (upd H t0 (.tup [])) O (.lst [.ref t0]) = H1 at s01 hT0 ⊢
    refine ⟨_, rfl, (n : Int), rfl, by omega, by omega, ?_⟩
    rw [show ((n : Int)).toNat = n from Int.toNat_natCast _]
    refine for_it walk_range (fun i σ H2 => ∃ (O : Addr) (y3 y4 y5 : Option V), σ = [some (.int n), some (.int k), some (.ref O), y3, y4, y5] ∧ Same H H2 ∧ TList K H2 (.ref O) (chF k i)) ⟨O, none, none, none, rfl, s01, hT0⟩ (fun _ _ _ _ _ => trivial) ?_ ?_
    · rintro i x σ H2 H2' hi ⟨O2, y3, y4, y5, rfl, s2, hO⟩ ⟨rfl, rfl⟩
      obtain ⟨_, ws, eO, hws, hp⟩ := hO
      cases eO
      have lws := Paired.length hp
      have hlen := chF_len k i
      have h16 : 2 ^ i ≤ 2 ^ 4 := Nat.pow_le_pow_right (by decide) (by omega)
      refine ⟨by show 0 ≤ sizeLine; decide, fun L nL => ?_⟩
      have s3 := same_upd (o := .lst []) nL
      have nOL : O2 ≠ L := ne_of_none hws nL
      refine ⟨_, rfl, O2, ws, rfl, .inl (.inl (.inl (s3 _ _ hws))), fun J G W hG => ?_⟩
      refine for_it W (fun j σ H4 => ∃ (y5 : Option V) (lg : List V), σ = [some (.int n), some (.int k), some (.ref O2), some (.int (0 + (i : Int))), some (.ref L), y5] ∧ Same H2' H4 ∧ (∀ b o, b ≠ L → (upd H2' L (.lst [])) b = some o → H4 b = some o) ∧ H4 L = some (.lst lg) ∧ Paired (TRow K H4) lg (chStep k i ((chF k i).take j))) ⟨y5, [], rfl, s3, fun b o _ e => e, upd_same, by rw [List.take_zero]; exact .nil⟩ (fun j σ H4 _ ⟨_, _, _, _, o4, _⟩ => hG _ fun b hb o e => o4 b o (by
        obtain rfl : b = O2 := by simpa using hb
        exact nOL) e) ?_ ?_
      · rintro j x σ H4 H4' hj ⟨y5, lg, rfl, s4, o4, eL, hlg⟩ ⟨rfl, ex⟩
        obtain ⟨c, ec, hc⟩ := Paired.getR hp ex
        obtain ⟨b, rfl, hb⟩ := id hc
        have hcl := chItems k i c (List.mem_of_getElem? ec)
        have hc4 := TRow.same s4 hc
        have llg := Paired.length hlg
        have l2 := chStep_len k i ((chF k i).take j)
        have l3 : ((chF k i).take j).length ≤ (chF k i).length := by rw [List.length_take]; exact Nat.min_le_right _ _
        have o5 : Off L H4' (upd H4' L (.lst (lg ++ [V.ref b]))) := Off.upd
        refine ⟨_, rfl, .inl ⟨rfl, lg, .inl (.inl eL)⟩, _, rfl, L, lg, .ref b, rfl, rfl, eL, small1000 (by omega), ?_⟩
        have hc5 := TRow.off eL o5 hc4
        have hlg5 : Paired (TRow K (upd H4' L (.lst (lg ++ [V.ref b])))) (lg ++ [V.ref b]) (chStep k i ((chF k i).take j) ++ [c]) := Paired.snoc (L2.Paired.mapP hlg fun _ _ h => TRow.off eL o5 h) hc5
        have eL5 : (upd H4' L (.lst (lg ++ [V.ref b]))) L = some (.lst (lg ++ [V.ref b])) := upd_same
        have p5 : ∀ b' o, b' ≠ L → (upd H2' L (.lst [])) b' = some o → (upd H4' L (.lst (lg ++ [V.ref b]))) b' = some o := fun b' o nb e => o5 _ _ nb (o4 b' o nb e)
        generalize upd H4' L (.lst (lg ++ [V.ref b])) = H5 at o5 hc5 hlg5 eL5 p5 ⊢
        obtain ⟨_, eb, hb5⟩ := id hc5
        cases eb
        refine ⟨_, rfl, b, _, rfl, .inr hb5, _, rfl, _, _, rfl, rfl, _, rfl, ?_⟩
        by_cases hk2 : c.length < k
        · rw [decide_eq_true (show (((c.map V.int).length : Nat) : Int) < (k : Int) by rw [List.length_map]; omega)]
          refine iteT ?_
          refine ⟨_, rfl, .inl ⟨rfl, _, .inl (.inl eL5)⟩, _, rfl, _, rfl, by show 1 ≤ sizeLine; decide, fun tp ntp => ?_⟩
          have s6 := same_upd (o := .tup [V.int (0 + (i : Int))]) ntp
          refine catA (xs := c.map V.int) (ys := [V.int (0 + (i : Int))]) (Same.seqT s6 hb5) (.inl (.inl upd_same)) (by rw [List.length_map]; show c.length + 1 ≤ 1000; omega) fun tq H7 s7 h7 => ?_
          have eL7 := s7 _ _ (s6 _ _ eL5)
          have o8 : Off L H7 (upd H7 L (.lst (lg ++ [V.ref b] ++ [V.ref tq]))) := Off.upd
          have hq : TRow K H7 (.ref tq) (c ++ [(i : Int)]) := ⟨tq, rfl, by rw [List.map_append]; rw [Int.zero_add] at h7; exact h7⟩
          refine ⟨L, _, .ref tq, rfl, rfl, eL7, small1000 (by rw [List.length_append]; show lg.length + 1 ≤ 1000; omega), ?_⟩
          refine ⟨some (.ref b), lg ++ [V.ref b] ++ [V.ref tq], rfl, fun b' o e => ?_, fun b' o nb e => o8 _ _ nb (s7 _ _ (s6 _ _ (p5 _ _ nb e))), upd_same, ?_⟩
          · have nb : b' ≠ L := ne_of_none e nL
            refine o8 _ _ nb (s7 _ _ (s6 _ _ (p5 _ _ nb ?_)))
            rw [L2.upd_ne nb]
            exact e
          · rw [chStep_take ec]
            have : chStep k i ((chF k i).take j) ++ chIn k i c = chStep k i ((chF k i).take j) ++ [c] ++ [c ++ [(i : Int)]] := by
              unfold chIn
              rw [if_pos hk2, List.append_assoc]
              rfl
            rw [this]
            exact Paired.snoc (L2.Paired.mapP hlg5 fun _ _ h => TRow.off eL7 o8 (TRow.same (s6.trans s7) h)) (TRow.off eL7 o8 hq)
        · rw [decide_eq_false (show ¬ (((c.map V.int).length : Nat) : Int) < (k : Int) by rw [List.length_map]; omega)]
          refine iteF ?_
          refine ⟨some (.ref b), lg ++ [V.ref b], rfl, fun b' o e => ?_, p5, eL5, ?_⟩
          · have nb : b' ≠ L := ne_of_none e nL
            refine p5 _ _ nb ?_
            rw [L2.upd_ne nb]
            exact e
          · rw [chStep_take ec]
            unfold chIn
            rw [if_neg hk2]
            exact hlg5
      · rintro σ H4 ⟨y5, lg, rfl, s4, o4, eL, hlg⟩
        rw [lws, List.take_length] at hlg
        refine ⟨_, rfl, L, lg, rfl, .inl (.inl (.inl eL)), fun O3 nO3 => ?_⟩
        have s6 := same_upd (o := .lst lg) nO3
        exact ⟨O3, _, _, _, rfl, s2.trans (s4.trans s6), O3, lg, rfl, upd_same, L2.Paired.mapP hlg fun _ _ => TRow.same s6⟩
    · rintro σ H2 ⟨O2, y3, y4, y5, rfl, s2, hO⟩
      obtain ⟨_, ws, eO, hws, hp⟩ := hO
      cases eO
      have lws := Paired.length hp
      refine ⟨_, rfl, O2, ws, rfl, .inl (.inl (.inl hws)), fun J G W hG D hD => ?_⟩
      refine lc_it W (Pv := fun j H3 => Same H2 H3 ∧ ∃ acc, H3 D = some (.lst acc) ∧ acc.length ≤ j ∧ Paired (TRow K H3) acc (((chF k n).take j).filter fun c => decide (c.length = k))) ⟨same_upd hD, [], upd_same, Nat.le_refl _, by rw [List.take_zero]; exact .nil⟩ (fun j H3 _ ⟨s3, _⟩ => hG _ fun b _ o e => s3 b o e) ?_ ?_
      · rintro j x H3 H3' hj ⟨s3, acc, eD, lacc, hacc⟩ ⟨rfl, ex⟩
        obtain ⟨c, ec, hc⟩ := Paired.getR hp ex
        obtain ⟨b, rfl, hb⟩ := id hc
        have h24 : 2 ^ n ≤ 2 ^ 4 := Nat.pow_le_pow_right (by decide) hn
        have hlen := chF_len k n
        refine ⟨rfl, ?_⟩
        refine ⟨_, rfl, b, _, rfl, .inr (Same.seqT s3 hb), _, rfl, rfl, _, rfl, ?_⟩
        have oD : Off D H3' (upd H3' D (.lst (acc ++ [V.ref b]))) := Off.upd
        by_cases hk2 : c.length = k
        · rw [show decide (V.int (((c.map V.int).length : Nat) : Int) = V.int (k : Int)) = true from decide_eq_true (by rw [List.length_map, hk2])]
          refine iteT ?_
          refine ⟨_, rfl, acc, eD, small1000 (by omega), fun b' o e => ?_, acc ++ [V.ref b], upd_same, by rw [List.length_append]; show acc.length + 1 ≤ j + 1; omega, ?_⟩
          · rw [L2.upd_ne (ne_of_none e hD)]
            exact s3 _ _ e
          · rw [take_add ec, List.filter_append, List.filter_cons, if_pos (decide_eq_true hk2), List.filter_nil]
            exact Paired.snoc (L2.Paired.mapP hacc fun _ _ h => TRow.off eD oD h) (TRow.off eD oD (TRow.same s3 hc))
        · rw [show decide (V.int (((c.map V.int).length : Nat) : Int) = V.int (k : Int)) = false from decide_eq_false fun z => hk2 (by have := V.int.inj z; rw [List.length_map] at this; omega)]
          refine iteF ?_
          refine ⟨s3, acc, eD, by omega, ?_⟩
          rw [take_add ec, List.filter_append, List.filter_cons, if_neg (by simpa using hk2), List.filter_nil, List.append_nil]
          exact hacc
      · rintro H3 ⟨s3, acc, eD, lacc, hacc⟩
        rw [lws, List.take_length] at hacc
        exact q _ _ (s2.trans s3) ⟨D, acc, rfl, eD, hacc⟩
theorem cal_law_choices (T : Top K mg) (hN : base.NoSeer) (hT : P.given.tree = none) : Cal P w K mg base 1 "_law_choices" (sp_law_choices K) [] := ⟨⟨_, _, _, [], ok_law_choices T hN hT, T.g_law_choices, T.F_law_choices.kp, T.b_law_choices, .nil⟩⟩

end
end K06
namespace K06
open PySem PySem.Spec PyProof.Rows L2 Gm
open C8 (Cal Met Mak pe_c pe_mt pe_mt0 pe_mk)
section
variable {P : Program} {w : World} {K : PySem.W.Frag} {mg : Str → Option Value} {base : Heap}
theorem diag_unit (n : Nat) : diagM (List.replicate n 1) = unitM n := by
  unfold diagM unitM unitU
  rw [List.length_replicate]
  refine List.map_congr_left fun i hi => List.map_congr_left fun j hj => ?_
  have hi' := List.mem_range.mp hi
  have e : (List.replicate n (1 : Int)).getD i 0 = 1 := by
    rw [List.getD_eq_getElem?_getD, List.getElem?_replicate, if_pos hi']
    rfl
  rw [e]
theorem tr_mem {V : List (List Int)} {n : Nat} {r : List Int} (h : r ∈ transp V n) : ∀ x ∈ r, x = 0 ∨ ∃ q ∈ V, x ∈ q := fun x hx => by
  obtain ⟨k, _, rfl⟩ := List.mem_map.mp h
  obtain ⟨q, hq, rfl⟩ := List.mem_map.mp hx
  by_cases hk : k < q.length
  · refine .inr ⟨q, hq, ?_⟩
    rw [List.getD_eq_getElem?_getD, List.getElem?_eq_getElem hk]
    exact List.getElem_mem hk
  · refine .inl ?_
    rw [List.getD_eq_getElem?_getD, List.getElem?_eq_none (by omega)]
    rfl
theorem tr_cost {c : Nat} {V : List (List Int)} {n : Nat} (h : ∀ r ∈ V, Cost c r) : ∀ r ∈ transp V n, Cost c r := fun r hr x hx => by
  rcases tr_mem hr x hx with rfl | ⟨q, hq, hxq⟩
  · exact Nat.pow_pos (by decide)
  · exact h q hq x hxq
theorem hC12 {k : Nat} (h : k ≤ 4) : (∀ i, i < k → (i + 1) * (hC 12 i * (1 + tri i)) ≤ 60000000) ∧ 2 * hC 12 k ≤ 134217728 := by
  refine ⟨fun i hi => ?_, ?_⟩
  · rcases (show i = 0 ∨ i = 1 ∨ i = 2 ∨ i = 3 by omega) with rfl | rfl | rfl | rfl <;> decide
  · have := hC_mono 12 h
    have e : hC 12 4 = 43008 := by decide
    omega
def sp_Grid_is_primitive (K : PySem.W.Frag) (C : Addr) : Sp := fun vs H Q _ => ∃ (v : V) (m : List (List Int)) (w : Nat), vs = [v] ∧ IsGrid K C H v m w ∧ m.length ≤ 900 ∧ w ≤ 4 ∧ (∀ r ∈ m, Cost 12 r) ∧ ∀ T H', Same H H' → HRes m.length 12 (transp m w) (transp m w).length T → Q (.bl (decide (rowsT T = unitM m.length))) H'
theorem ok_Grid_is_primitive (T : Top K mg) (hN : base.NoSeer) (hT : P.given.tree = none) : FnOk P w K mg base CX0 46 T.a_Grid_is_primitive T.d_Grid_is_primitive ["self"] (sp_Grid_is_primitive K T.C_Grid) := by
  refine T.F_Grid_is_primitive.ok sc_Grid_is_primitive (fun vs H Q E h => ?_) (fun cdv A outer s H vs Q E hr h => ?_)
  · obtain ⟨v, m, w, rfl, _⟩ := h
    rfl
  · obtain ⟨v, m, w, rfl, G, hm, hw, hc, q⟩ := h
    obtain ⟨⟨p, dx, t, rfl, ho, ht⟩, hrw⟩ := id G
    refine ⟨_, (pss_one (ps_ret (pe_cmpR (eqDK K rfl hr) (pe_c (cal_hermite_rows T hN hT) hr (by decide) (by rfl) (pa_cons (fldK K rfl (pe_mt0 (met_Grid_transposed T hN hT) hr (by decide) (pv 0)) rfl) pa_nil)) (fldK K rfl (pe_c (cal_unit T hN hT) hr (by decide) (by rfl) (pa_cons (pe_callB (lenS K rfl) (by rfl) T.z_len (by decide +kernel) (pa_cons (fldK K rfl (pv 0) rfl) pa_nil)) pa_nil)) rfl) (nomark _)))), ?_⟩
    refine ⟨_, rfl, p, dx, _, rfl, ho, m_transposed _ _, .ref p, m, w, rfl, G, by omega, by omega, fun g H1 s1 G1 => ?_⟩
    obtain ⟨⟨pg, dg, tg, rfl, hog, htg⟩, hrg⟩ := id G1
    refine ⟨pg, T.C_Grid, dg, _, _, rfl, hog, T.cl_Grid, T.n_rows, flds_rows _ _, ?_⟩
    have lt := transp_len m w
    refine ⟨tg, transp m w, m.length, 12, rfl, htg, hrg, by omega, by omega, tr_cost hc, (hC12 (by omega)).1, (hC12 (by omega)).2, fun TT t' H2 s2 R ht' => ?_⟩
    have G2 := IsGrid.same (s1.trans s2) G
    obtain ⟨⟨_, d2, t2, e2, ho2, ht2⟩, _⟩ := id G2
    cases e2
    obtain ⟨qt, wt, rfl, hq, hpt⟩ := id ht2
    have lwt := Paired.length hpt
    refine ⟨_, rfl, p, T.C_Grid, d2, _, _, rfl, ho2, T.cl_Grid, T.n_rows, flds_rows _ _, qt, _, rfl, .inr hq, wt.length, rfl, by omega, fun u H3 s3 Gu => ?_⟩
    obtain ⟨⟨pu, du, tu, rfl, hou, htu⟩, _⟩ := id Gu
    refine ⟨pu, T.C_Grid, du, _, _, rfl, hou, T.cl_Grid, T.n_rows, flds_rows _ _, ?_⟩
    refine eq_rows (TRows.same s3 ht') htu ?_
    rw [diag_unit, lwt]
    exact q TT _ (s1.trans (s2.trans s3)) R
theorem met_Grid_is_primitive (T : Top K mg) (hN : base.NoSeer) (hT : P.given.tree = none) : Met P w K mg base 46 T.C_Grid "is_primitive" (sp_Grid_is_primitive K T.C_Grid) [] := ⟨⟨_, _, _, [], T.cl_Grid, T.m_Grid_is_primitive, ok_Grid_is_primitive T hN hT, T.b_Grid_is_primitive, .nil⟩⟩
theorem m_is_primitive (t : V) (w : Nat) : (flds t w).lookup ("is_primitive" : Str) = none := flds_no t w (by decide +kernel) (by decide +kernel)

end
end K06
namespace K06
open PySem PySem.Spec PyProof.Rows L2 Gm
open C8 (Cal Met Mak pe_c pe_mt pe_mt0 pe_mk)
section
variable {P : Program} {w : World} {K : PySem.W.Frag} {mg : Str → Option Value} {base : Heap}
/-! ### spans and unit rows -/
def sumF : Nat → (Nat → Int) → Int
  | 0, _ => 0
  | n + 1, f => sumF n f + f n
abbrev fn (x : List Int) : Nat → Int := fun i => x.getD i 0
def ent (m : List (List Int)) (i j : Nat) : Int := (m.getD i []).getD j 0
theorem sumF_congr {n : Nat} {f g : Nat → Int} (h : ∀ i, i < n → f i = g i) : sumF n f = sumF n g := by
  induction n with
  | zero => rfl
  | succ n ih =>
    show sumF n f + f n = sumF n g + g n
    rw [ih fun i hi => h i (by omega), h n (by omega)]
theorem sumF_lin (n : Nat) (f g : Nat → Int) (a : Int) : sumF n (fun i => f i + a * g i) = sumF n f + a * sumF n g := by
  induction n with
  | zero => show (0 : Int) = 0 + a * 0; omega
  | succ n ih =>
    show sumF n (fun i => f i + a * g i) + (f n + a * g n) = sumF n f + f n + a * (sumF n g + g n)
    rw [ih]
    grind
theorem sumF_zero (n : Nat) : sumF n (fun _ => 0) = 0 := by
  induction n with
  | zero => rfl
  | succ n ih => show sumF n (fun _ => 0) + 0 = 0; rw [ih]; rfl
theorem spn_comb {R : List (List Int)} {g : Nat → Nat → Int} {c : Nat → Int} : ∀ k, (∀ b, b < k → Spn R (g b)) → Spn R (fun l => sumF k fun b => c b * g b l)
  | 0, _ => Spn.zero R
  | k + 1, h => by
    have h1 := spn_comb (c := c) k fun b hb => h b (by omega)
    have h2 := (h k (by omega)).smul (c k)
    exact (h1.add h2).cong fun l => rfl
theorem spn_out {R : List (List Int)} {f : Nat → Int} (h : Spn R f) : ∃ c : Nat → Int, ∀ l, f l = sumF R.length fun j => c j * fn (R.getD j []) l := by
  have key : ∀ (R Q : List (List Int)) (f : Nat → Int), Spn R f → ∃ c : Nat → Int, ∀ l, f l = sumF R.length fun j => c j * fn (R.getD j []) l := fun R => by
    induction R with
    | nil => intro Q f h; exact ⟨fun _ => 0, h⟩
    | cons r R ih =>
      intro Q f ⟨a, h⟩
      obtain ⟨c, hc⟩ := ih Q _ h
      refine ⟨fun j => match j with | 0 => a | j + 1 => c j, fun l => ?_⟩
      have e : ∀ (n : Nat) (F : Nat → Int), sumF (n + 1) F = F 0 + sumF n fun j => F (j + 1) := fun n F => by
        induction n with
        | zero => show 0 + F 0 = F 0 + 0; omega
        | succ n ih2 =>
          show sumF (n + 1) F + F (n + 1) = F 0 + ((sumF n fun j => F (j + 1)) + F (n + 1))
          rw [ih2]
          omega
      rw [List.length_cons, e]
      have h1 : f l - a * r.getD l 0 = _ := hc l
      show f l = a * r.getD l 0 + sumF R.length fun j => c j * fn (R.getD j []) l
      omega
  exact key R R f h
theorem unit_get {k i j : Nat} (hi : i < k) : fn (unitU k i) j = if i = j then 1 else 0 := by
  show (unitU k i).getD j 0 = _
  unfold unitU
  rw [List.getD_eq_getElem?_getD, List.getElem?_map]
  by_cases hj : j < k
  · rw [List.getElem?_range hj]
    rfl
  · rw [List.getElem?_eq_none (by rw [List.length_range]; omega), if_neg (by omega)]
    rfl
theorem spn_units {k : Nat} {R : List (List Int)} (h : ∀ i, i < k → Spn R (fn (unitU k i))) {f : Nat → Int} (hf : ∀ j, k ≤ j → f j = 0) : Spn R f := by
  have h1 := spn_comb (c := f) (g := fun b => fn (unitU k b)) k h
  refine h1.cong fun l => ?_
  have key : ∀ c, c ≤ k → (sumF c fun b => f b * fn (unitU k b) l) = if l < c then f l else 0 := fun c => by
    induction c with
    | zero => intro _; rfl
    | succ c ih =>
      intro hc
      show (sumF c fun b => f b * fn (unitU k b) l) + f c * fn (unitU k c) l = _
      rw [ih (by omega), unit_get (by omega)]
      by_cases h1 : c = l
      · subst h1
        rw [if_neg (by omega), if_pos rfl, if_pos (by omega)]
        omega
      · rw [if_neg h1, Int.mul_zero]
        by_cases h2 : l < c
        · rw [if_pos h2, if_pos (by omega)]
          omega
        · rw [if_neg h2, if_neg (by omega)]
          rfl
  show (sumF k fun b => f b * fn (unitU k b) l) = f l
  rw [key k (Nat.le_refl _)]
  split
  · rfl
  · exact (hf l (by omega)).symm
def Full (k : Nat) (R : List (List Int)) : Prop := ∀ i, i < k → Spn R (fn (unitU k i))
def unitT (k : Nat) : Tops := (List.range k).map fun i => (i, unitU k i)
theorem unitT_rows (k : Nat) : rowsT (unitT k) = unitM k := by
  unfold rowsT unitT unitM
  rw [List.map_map]
  rfl
theorem unitT_ech (k : Nat) : Ech k (unitT k) := by
  refine ⟨?_, fun p hp => ?_⟩
  · unfold unitT
    rw [List.pairwise_map]
    exact List.pairwise_lt_range
  · obtain ⟨i, hi, rfl⟩ := List.mem_map.mp hp
    have hi' := List.mem_range.mp hi
    refine ⟨hi', unitU_len, fun j hj => ?_, ?_⟩
    · show fn (unitU k i) j = 0
      rw [unit_get hi', if_neg (by have : j < i := hj; omega)]
    · show 0 < fn (unitU k i) i
      rw [unit_get hi', if_pos rfl]
      decide
theorem tid_of : ∀ {T : Tops}, T.Pairwise (fun p q => 0 ≤ p.2.getD q.1 0 ∧ p.2.getD q.1 0 < q.2.getD q.1 0) → Tid T
  | [], _ => trivial
  | p :: T, h => ⟨(List.pairwise_cons.mp h).1, tid_of (List.pairwise_cons.mp h).2⟩
theorem unitT_tid (k : Nat) : Tid (unitT k) := by
  refine tid_of ?_
  unfold unitT
  rw [List.pairwise_map]
  refine List.Pairwise.imp_of_mem (R := fun a b => a < b) (fun {a b} ha hb hab => ?_) List.pairwise_lt_range
  have ha' := List.mem_range.mp ha
  have hb' := List.mem_range.mp hb
  show 0 ≤ fn (unitU k a) b ∧ fn (unitU k a) b < fn (unitU k b) b
  rw [unit_get ha', unit_get hb', if_neg (by omega), if_pos rfl]
  exact ⟨Int.le_refl _, by decide⟩
theorem prim_iff {k B : Nat} {R : List (List Int)} {T : Tops} (h : HRes k B R R.length T) : rowsT T = unitM k ↔ Full k R := by
  have hs := h.span
  rw [List.take_length] at hs
  constructor
  · intro e i hi
    refine (hs _).mp ?_
    rw [e]
    exact Spn.mem (List.mem_map.mpr ⟨i, List.mem_range.mpr hi, rfl⟩)
  · intro hf
    have hT : T = unitT k := herm_uniq h.E (unitT_ech k) h.tid (unitT_tid k) fun x => by
      rw [unitT_rows]
      constructor
      · refine Spn.sub fun r hr => ?_
        obtain ⟨p, hp, rfl⟩ := List.mem_map.mp hr
        refine spn_units (k := k) (fun i hi => Spn.mem (List.mem_map.mpr ⟨i, List.mem_range.mpr hi, rfl⟩)) fun j hj => ?_
        exact getD_none (by rw [(h.E.pv p hp).len]; exact hj)
      · refine Spn.sub fun r hr => ?_
        obtain ⟨i, hi, rfl⟩ := List.mem_map.mp hr
        exact (hs _).mpr (hf i (List.mem_range.mp hi))
    rw [hT, unitT_rows]
theorem prim_dec {k B : Nat} {R : List (List Int)} {T : Tops} (h : HRes k B R R.length T) {p : Prop} [Decidable p] (hp : Full k R ↔ p) : decide (rowsT T = unitM k) = decide p := by
  by_cases h1 : p
  · rw [decide_eq_true h1, decide_eq_true ((prim_iff h).mpr (hp.mpr h1))]
  · rw [decide_eq_false h1, decide_eq_false fun e => h1 (hp.mp ((prim_iff h).mp e))]

end
end K06
namespace K06
open PySem PySem.Spec PyProof.Rows L2 Gm
open C8 (Cal Met Mak pe_c pe_mt pe_mt0 pe_mk)
section
variable {P : Program} {w : World} {K : PySem.W.Frag} {mg : Str → Option Value} {base : Heap}
theorem sumF_shift (n : Nat) (F : Nat → Int) : sumF (n + 1) F = F 0 + sumF n fun j => F (j + 1) := by
  induction n with
  | zero => show 0 + F 0 = F 0 + 0; omega
  | succ n ih2 =>
    show sumF (n + 1) F + F (n + 1) = F 0 + ((sumF n fun j => F (j + 1)) + F (n + 1))
    rw [ih2]
    omega
theorem sumF_mul (n : Nat) (f : Nat → Int) (a : Int) : sumF n (fun i => a * f i) = a * sumF n f := by
  have := sumF_lin n (fun _ => 0) f a
  rw [sumF_zero] at this
  rw [Int.zero_add] at this
  rw [← this]
  exact sumF_congr fun i _ => by omega
def dotI' (x y : List Int) : Int := dotI x y
theorem dot_sum : ∀ {n : Nat} {x y : List Int}, x.length = n → y.length = n → dotI x y = sumF n fun a => fn x a * fn y a
  | 0, [], [], _, _ => rfl
  | n + 1, a :: x, b :: y, hx, hy => by
    rw [sumF_shift, show dotI (a :: x) (b :: y) = a * b + dotI x y from rfl, dot_sum (n := n) (by simpa using hx) (by simpa using hy)]
    rfl
theorem row_ent {M : List (List Int)} {l j : Nat} : ent M l j = fn (M.getD l []) j := rfl
theorem map_ent {M : List (List Int)} {l j : Nat} : (M.map fun r => r.getD j 0).getD l 0 = ent M l j := by
  unfold ent
  rw [List.getD_eq_getElem?_getD, List.getElem?_map, List.getD_eq_getElem?_getD (l := M)]
  cases M[l]? <;> rfl
theorem tr_fn {M : List (List Int)} {n j l : Nat} (hj : j < n) : fn ((transp M n).getD j []) l = ent M l j := by
  show ((transp M n).getD j []).getD l 0 = _
  rw [transp_get hj, map_ent]
theorem tr_row {M : List (List Int)} {n j : Nat} (hj : j < n) : (transp M n).getD j [] ∈ transp M n := by
  have h : j < (transp M n).length := by rw [transp_len]; exact hj
  rw [List.getD_eq_getElem?_getD, List.getElem?_eq_getElem h]
  exact List.getElem_mem h
theorem mul_ent {A B : List (List Int)} {n w l i : Nat} (hl : l < A.length) (hi : i < w) (hA : ∀ r ∈ A, r.length = n) (hB : B.length = n) : ent (mulM A B w) l i = sumF n fun a => ent A l a * ent B a i := by
  have eA : A[l]? = some (A.getD l []) := by rw [List.getD_eq_getElem?_getD, List.getElem?_eq_getElem hl]; rfl
  have e1 : (mulM A B w).getD l [] = (transp B w).map fun c => dotI (A.getD l []) c := by
    unfold mulM
    rw [List.getD_eq_getElem?_getD, List.getElem?_map, eA]
    rfl
  have hi' : i < (transp B w).length := by rw [transp_len]; exact hi
  have eB : (transp B w)[i]? = some ((transp B w).getD i []) := by rw [List.getD_eq_getElem?_getD, List.getElem?_eq_getElem hi']; rfl
  have lB : ((transp B w).getD i []).length = n := by rw [transp_row _ (tr_row hi), hB]
  unfold ent
  rw [e1, List.getD_eq_getElem?_getD, List.getElem?_map, eB]
  show dotI (A.getD l []) ((transp B w).getD i []) = _
  rw [dot_sum (hA _ (List.mem_of_getElem? eA)) lB]
  exact sumF_congr fun a _ => by rw [tr_fn hi]; rfl
theorem scal_ent {n l i : Nat} {d : Int} (hl : l < n) (hi : i < n) : ent (scalM n d) l i = d * (if l = i then 1 else 0) := by
  unfold ent scalM
  rw [List.getD_eq_getElem?_getD (l := (List.range n).map _), List.getElem?_map, List.getElem?_range hl]
  show ((List.range n).map fun k => d * (if l = k then 1 else 0)).getD i 0 = _
  rw [List.getD_eq_getElem?_getD, List.getElem?_map, List.getElem?_range hi]
  rfl
theorem due_len' (n : Nat) (m : List (List Int)) : (dueM n m).length = n := by
  unfold dueM
  rw [List.length_map, List.length_range]
/-- the sums by the adjugate -/
theorem due_sum {n : Nat} {M : List (List Int)} (h4 : n ≤ 4) (hs : Sz n M) {l i : Nat} (hl : l < n) (hi : i < n) : (sumF n fun a => ent (dueM n M) a i * ent M l a) = detL n M * (if l = i then 1 else 0) := by
  have h1 := mul_ent (w := n) (l := l) (i := i) (by rw [hs.len]; exact hl) hi hs.row (due_len' n M)
  rw [mul_due h4 hs, scal_ent hl hi] at h1
  rw [h1]
  exact sumF_congr fun a _ => Int.mul_comm ..
theorem inv_sum {n : Nat} {M : List (List Int)} (h4 : n ≤ 4) (hs : Sz n M) (hd : (detL n M).natAbs = 1) : ∃ Y : Nat → Nat → Int, ∀ l i, l < n → i < n → (sumF n fun a => Y a i * ent M l a) = if l = i then 1 else 0 := by
  refine ⟨fun a i => detL n M * ent (dueM n M) a i, fun l i hl hi => ?_⟩
  rw [sumF_congr (g := fun a => detL n M * (ent (dueM n M) a i * ent M l a)) fun a _ => Int.mul_assoc .., sumF_mul, due_sum h4 hs hl hi, ← Int.mul_assoc]
  rcases (show detL n M = 1 ∨ detL n M = -1 by omega) with e | e <;> rw [e] <;> split <;> rfl
theorem take_ent {W : List (List Int)} {k l j : Nat} : ent (W.take k) l j = if l < k then ent W l j else 0 := by
  unfold ent
  rw [List.getD_eq_getElem?_getD (l := W.take k), List.getElem?_take]
  by_cases h : l < k
  · rw [if_pos h, if_pos h, List.getD_eq_getElem?_getD (l := W)]
  · rw [if_neg h, if_neg h]
    rfl
/-- P2 -/
theorem full_take {n k : Nat} {W : List (List Int)} (h4 : n ≤ 4) (hs : Sz n W) (hd : (detL n W).natAbs = 1) (hk : k ≤ n) : Full k (transp (W.take k) n) := fun i hi => by
  obtain ⟨Y, hY⟩ := inv_sum h4 hs hd
  have h := spn_comb (R := transp (W.take k) n) (g := fun b => fn ((transp (W.take k) n).getD b [])) (c := fun b => Y b i) n fun b hb => Spn.mem (tr_row hb)
  refine h.cong fun l => ?_
  show (sumF n fun b => Y b i * fn ((transp (W.take k) n).getD b []) l) = _
  rw [sumF_congr (g := fun b => Y b i * (if l < k then ent W l b else 0)) fun b hb => by rw [tr_fn hb, take_ent], unit_get hi]
  by_cases hl : l < k
  · rw [sumF_congr (g := fun b => Y b i * ent W l b) fun b _ => by rw [if_pos hl], hY l i (by omega) (by omega)]
    by_cases e : l = i
    · rw [if_pos e, if_pos e.symm]
    · rw [if_neg e, if_neg fun z => e z.symm]
  · rw [sumF_congr (g := fun _ => 0) fun b _ => by rw [if_neg hl, Int.mul_zero], sumF_zero, if_neg (by omega)]
theorem mat_ext {k : Nat} {A B : List (List Int)} (hA : Sz k A) (hB : Sz k B) (h : ∀ l i, l < k → i < k → ent A l i = ent B l i) : A = B := by
  apply List.ext_getElem
  · rw [hA.len, hB.len]
  · intro l h1 h2
    have hl : l < k := by rw [hA.len] at h1; exact h1
    refine list_ext (w := k) (hA.row _ (List.getElem_mem h1)) (hB.row _ (List.getElem_mem h2)) fun i => ?_
    have e1 : A[l].getD i 0 = ent A l i := by
      unfold ent
      rw [List.getD_eq_getElem?_getD (l := A), List.getElem?_eq_getElem h1]
      rfl
    have e2 : B[l].getD i 0 = ent B l i := by
      unfold ent
      rw [List.getD_eq_getElem?_getD (l := B), List.getElem?_eq_getElem h2]
      rfl
    by_cases hi : i < k
    · rw [e1, e2, h l i hl hi]
    · rw [getD_none (by rw [hA.row _ (List.getElem_mem h1)]; omega), getD_none (by rw [hB.row _ (List.getElem_mem h2)]; omega)]
theorem unitM_sz (k : Nat) : Sz k (unitM k) := ⟨unitM_len, fun r hr => by
  obtain ⟨i, _, rfl⟩ := List.mem_map.mp hr
  exact unitU_len⟩
theorem unitM_ent {k l i : Nat} (hl : l < k) : ent (unitM k) l i = fn (unitU k l) i := by
  unfold ent unitM
  rw [List.getD_eq_getElem?_getD (l := (List.range k).map _), List.getElem?_map, List.getElem?_range hl]
  rfl
/-- P3 -/
theorem full_mul {n k : Nat} {W X : List (List Int)} (h4 : n ≤ 4) (hW : Full k (transp W n)) (lW : W.length = k) (rW : ∀ r ∈ W, r.length = n) (hk : k ≤ 4) (hX : Sz k X) : Full k (transp (mulM X W n) n) ↔ (detL k X).natAbs = 1 := by
  have lm : (mulM X W n).length = k := by rw [mulM_len, hX.len]
  have eR : ∀ j l, j < n → fn ((transp (mulM X W n) n).getD j []) l = if l < k then sumF k fun a => ent X l a * ent W a j else 0 := fun j l hj => by
    rw [tr_fn hj]
    by_cases hl : l < k
    · rw [if_pos hl, mul_ent (by rw [hX.len]; exact hl) hj hX.row lW]
    · rw [if_neg hl]
      unfold ent
      rw [List.getD_eq_getElem?_getD (l := mulM X W n), List.getElem?_eq_none (by omega)]
      rfl
  constructor
  · intro hF
    -- each unit vector is an image
    have him : ∀ f, Spn (transp (mulM X W n) n) f → ∃ y : Nat → Int, ∀ l, l < k → f l = sumF k fun a => ent X l a * y a := fun f hf => by
      refine Spn.prop (fun f => ∃ y : Nat → Int, ∀ l, l < k → f l = sumF k fun a => ent X l a * y a) ⟨fun _ => 0, fun l _ => ?_⟩ ?_ (fun r hr => ?_) hf
      · rw [sumF_congr (g := fun _ => 0) fun a _ => Int.mul_zero _, sumF_zero]
      · rintro x y a ⟨u, hu⟩ ⟨v, hv⟩
        refine ⟨fun b => u b + a * v b, fun l hl => ?_⟩
        show x l + a * y l = _
        rw [hu l hl, hv l hl, ← sumF_lin]
        exact sumF_congr fun b _ => by grind
      · obtain ⟨j, ej⟩ := List.getElem?_of_mem hr
        have hj : j < n := by
          have := (List.getElem?_eq_some_iff.mp ej).1
          rwa [transp_len] at this
        have er : r = (transp (mulM X W n) n).getD j [] := by rw [List.getD_eq_getElem?_getD, ej]; rfl
        refine ⟨fun a => ent W a j, fun l hl => ?_⟩
        show fn r l = _
        rw [er, eR j l hj, if_pos hl]
    have hy : ∀ i, ∃ y : Nat → Int, i < k → ∀ l, l < k → fn (unitU k i) l = sumF k fun a => ent X l a * y a := fun i => by
      by_cases hi : i < k
      · obtain ⟨y, hy⟩ := him _ (hF i hi)
        exact ⟨y, fun _ => hy⟩
      · exact ⟨fun _ => 0, fun h => absurd h hi⟩
    obtain ⟨y, hy⟩ := Classical.axiomOfChoice hy
    -- X times these is the unit matrix
    have hYs : Sz k ((List.range k).map fun a => (List.range k).map fun i => y i a) := ⟨by rw [List.length_map, List.length_range], fun r hr => by
      obtain ⟨a, _, rfl⟩ := List.mem_map.mp hr
      rw [List.length_map, List.length_range]⟩
    obtain ⟨Y, hYe⟩ : ∃ Y, (List.range k).map (fun a => (List.range k).map fun i => y i a) = Y := ⟨_, rfl⟩
    rw [hYe] at hYs
    have hYent : ∀ a i, a < k → i < k → ent Y a i = y i a := fun a i ha hi => by
      rw [← hYe]
      unfold ent
      rw [List.getD_eq_getElem?_getD (l := (List.range k).map _), List.getElem?_map, List.getElem?_range ha]
      show ((List.range k).map fun i => y i a).getD i 0 = _
      rw [List.getD_eq_getElem?_getD, List.getElem?_map, List.getElem?_range hi]
      rfl
    have hone : mulM X Y k = unitM k := mat_ext ⟨by rw [mulM_len, hX.len], mulM_row⟩ (unitM_sz k) fun l i hl hi => by
      rw [unitM_ent hl, unit_get hl, mul_ent (by rw [hX.len]; exact hl) hi hX.row hYs.len, sumF_congr (g := fun a => ent X l a * y i a) fun a ha => by rw [hYent a i ha hi], ← hy i hi l hl, unit_get hi]
      by_cases e : l = i
      · rw [if_pos e, if_pos e.symm]
      · rw [if_neg e, if_neg fun z => e z.symm]
    have hdet := det_mul hk hX hYs
    rw [hone] at hdet
    have h1 : detL k (unitM k) = 1 := by
      rcases (show k = 0 ∨ k = 1 ∨ k = 2 ∨ k = 3 ∨ k = 4 by omega) with rfl | rfl | rfl | rfl | rfl <;> decide
    rw [h1] at hdet
    have h2 : (detL k X).natAbs * (detL k Y).natAbs = 1 := by rw [← Int.natAbs_mul, ← hdet]; rfl
    exact Nat.dvd_one.mp ⟨_, h2.symm⟩
  · intro hd i hi
    obtain ⟨Y, hY⟩ := inv_sum hk hX hd
    -- the image of a span
    have him : ∀ f, Spn (transp W n) f → Spn (transp (mulM X W n) n) (fun l => if l < k then sumF k fun a => ent X l a * f a else 0) := fun f hf => by
      refine Spn.prop (fun f => Spn (transp (mulM X W n) n) (fun l => if l < k then sumF k fun a => ent X l a * f a else 0)) ?_ ?_ (fun r hr => ?_) hf
      · refine (Spn.zero _).cong fun l => ?_
        rw [sumF_congr (g := fun _ => 0) fun a _ => Int.mul_zero _, sumF_zero]
        split <;> rfl
      · intro x y a hx hy
        refine (hx.add (hy.smul a)).cong fun l => ?_
        by_cases hl : l < k
        · rw [if_pos hl, if_pos hl, if_pos hl, ← sumF_lin]
          exact sumF_congr fun b _ => by grind
        · rw [if_neg hl, if_neg hl, if_neg hl]
          omega
      · obtain ⟨j, ej⟩ := List.getElem?_of_mem hr
        have hj : j < n := by
          have := (List.getElem?_eq_some_iff.mp ej).1
          rwa [transp_len] at this
        have er : r = (transp W n).getD j [] := by rw [List.getD_eq_getElem?_getD, ej]; rfl
        refine (Spn.mem (tr_row (M := mulM X W n) hj)).cong fun l => ?_
        show fn ((transp (mulM X W n) n).getD j []) l = _
        rw [eR j l hj]
        by_cases hl : l < k
        · rw [if_pos hl, if_pos hl]
          exact sumF_congr fun a _ => by rw [er]; show _ = ent X l a * fn ((transp W n).getD j []) a; rw [tr_fn hj]
        · rw [if_neg hl, if_neg hl]
    have hyi : Spn (transp W n) (fun a => if a < k then Y a i else 0) := spn_units hW fun j hj => by rw [if_neg (by omega)]
    refine (him _ hyi).cong fun l => ?_
    rw [unit_get hi]
    by_cases hl : l < k
    · rw [if_pos hl, sumF_congr (g := fun a => Y a i * ent X l a) fun a ha => by rw [if_pos ha, Int.mul_comm], hY l i hl hi]
      by_cases e : l = i
      · rw [if_pos e, if_pos e.symm]
      · rw [if_neg e, if_neg fun z => e z.symm]
    · rw [if_neg hl, if_neg (by omega)]

end
end K06
namespace K06
open PySem PySem.Spec PyProof.Rows L2 Gm
open C8 (Cal Met Mak pe_c pe_mt pe_mt0 pe_mk)
section
variable {P : Program} {w : World} {K : PySem.W.Frag} {mg : Str → Option Value} {base : Heap}
def pick (m : List (List Int)) (S : List Int) : List (List Int) := m.map fun row => S.map fun z => row.getD z.toNat 0
def gcF (ms : List Int) : Nat := ms.foldl (fun g d => Nat.gcd g d.natAbs) 0
theorem gcF_fold : ∀ (ms : List Int) (g : Nat), (ms.foldl (fun g d => Nat.gcd g d.natAbs) g) ∣ g ∧ ∀ d ∈ ms, ((ms.foldl (fun g d => Nat.gcd g d.natAbs) g : Nat) : Int) ∣ d
  | [], g => ⟨Nat.dvd_refl _, fun d hd => (by cases hd)⟩
  | d :: ms, g => by
    obtain ⟨h1, h2⟩ := gcF_fold ms (Nat.gcd g d.natAbs)
    refine ⟨Nat.dvd_trans h1 (Nat.gcd_dvd_left ..), fun e he => ?_⟩
    rcases List.mem_cons.mp he with rfl | he
    · exact Int.ofNat_dvd_left.mpr (Nat.dvd_trans h1 (Nat.gcd_dvd_right ..))
    · exact h2 e he
theorem gcF_dvd {ms : List Int} {d : Int} (h : d ∈ ms) : ((gcF ms : Nat) : Int) ∣ d := (gcF_fold ms 0).2 d h
def Jd (k : Nat) (R : List (List Int)) (c : Int) : Prop := ∀ i, i < k → Spn R (fun l => c * fn (unitU k i) l)
theorem Jd.lin {k : Nat} {R : List (List Int)} {a b : Int} (ha : Jd k R a) (hb : Jd k R b) (c : Int) : Jd k R (a + c * b) := fun i hi => ((ha i hi).add ((hb i hi).smul c)).cong fun l => by grind
theorem Jd.zero (k : Nat) (R : List (List Int)) : Jd k R 0 := fun i hi => (Spn.zero R).cong fun l => (Int.zero_mul _).symm
theorem Jd.abs {k : Nat} {R : List (List Int)} {a : Int} (h : Jd k R a) : Jd k R (a.natAbs : Nat) := by
  rcases Int.natAbs_eq a with e | e
  · rw [← e]
    exact h
  · have := (Jd.zero k R).lin h (-1)
    rw [show (0 : Int) + -1 * a = (a.natAbs : Nat) by omega] at this
    exact this
theorem Jd.gcd {k : Nat} {R : List (List Int)} : ∀ (m n : Nat), Jd k R (m : Int) → Jd k R (n : Int) → Jd k R ((Nat.gcd m n : Nat) : Int) := fun m n => by
  induction m, n using Nat.gcd.induction with
  | H0 n => intro _ h; rw [Nat.gcd_zero_left]; exact h
  | H1 m n hm ih =>
    intro h1 h2
    rw [Nat.gcd_rec]
    refine ih ?_ h1
    have h3 := h2.lin h1 (-((n / m : Nat) : Int))
    rw [show (n : Int) + -((n / m : Nat) : Int) * (m : Int) = ((n % m : Nat) : Int) by
      have h4 := Nat.div_add_mod n m
      have h5 : (m : Int) * ((n / m : Nat) : Int) + ((n % m : Nat) : Int) = (n : Int) := by exact_mod_cast h4
      grind] at h3
    exact h3
theorem Jd.fold {k : Nat} {R : List (List Int)} : ∀ (ms : List Int) (g : Nat), Jd k R (g : Int) → (∀ d ∈ ms, Jd k R d) → Jd k R ((ms.foldl (fun g d => Nat.gcd g d.natAbs) g : Nat) : Int)
  | [], _, h, _ => h
  | d :: ms, g, h, hm => Jd.fold ms _ (Jd.gcd _ _ h (hm d (List.mem_cons_self ..)).abs) fun e he => hm e (List.mem_cons_of_mem _ he)
theorem ch_ok {n k : Nat} (h4 : n ≤ 4) (hk : k ≤ n) : ∀ S ∈ chAll n k, S.length = k ∧ ∀ z ∈ S, 0 ≤ z ∧ z < n := by
  rcases (show n = 0 ∨ n = 1 ∨ n = 2 ∨ n = 3 ∨ n = 4 by omega) with rfl | rfl | rfl | rfl | rfl <;> rcases (show k = 0 ∨ k = 1 ∨ k = 2 ∨ k = 3 ∨ k = 4 by omega) with rfl | rfl | rfl | rfl | rfl <;> first | (exfalso; omega) | decide
theorem pick_sz {m : List (List Int)} {S : List Int} {k : Nat} (hm : m.length = k) (hS : S.length = k) : Sz k (pick m S) := ⟨by unfold pick; rw [List.length_map, hm], fun r hr => by
  obtain ⟨x, _, rfl⟩ := List.mem_map.mp hr
  rw [List.length_map, hS]⟩
theorem pick_ent {m : List (List Int)} {S : List Int} {l a : Nat} (ha : a < S.length) : ent (pick m S) l a = ent m l (S[a]).toNat := by
  unfold ent pick
  rw [List.getD_eq_getElem?_getD (l := m.map _), List.getElem?_map, List.getD_eq_getElem?_getD (l := m)]
  cases e : m[l]? with
  | none => rfl
  | some row =>
    show (S.map fun z => row.getD z.toNat 0).getD a 0 = row.getD (S[a]).toNat 0
    rw [List.getD_eq_getElem?_getD, List.getElem?_map, List.getElem?_eq_getElem ha]
    rfl
theorem minor_J {n k : Nat} {m : List (List Int)} {S : List Int} (hk : k ≤ 4) (hm : m.length = k) (hS : S.length = k) (hz : ∀ z ∈ S, 0 ≤ z ∧ z < n) : Jd k (transp m n) (detL k (pick m S)) := fun i hi => by
  have hs := pick_sz hm hS
  have hb : ∀ b, b < k → ∃ hb : b < S.length, (S[b]).toNat < n := fun b hb => ⟨by omega, by
    have := hz _ (List.getElem_mem (show b < S.length by omega))
    omega⟩
  have h := spn_comb (R := transp m n) (g := fun b => fn ((transp m n).getD (S.getD b 0).toNat [])) (c := fun b => ent (dueM k (pick m S)) b i) k fun b h => by
    obtain ⟨h1, h2⟩ := hb b h
    have e : S.getD b 0 = S[b] := by rw [List.getD_eq_getElem?_getD, List.getElem?_eq_getElem h1]; rfl
    rw [e]
    exact Spn.mem (tr_row h2)
  refine h.cong fun l => ?_
  show (sumF k fun b => ent (dueM k (pick m S)) b i * fn ((transp m n).getD (S.getD b 0).toNat []) l) = _
  rw [sumF_congr (g := fun b => ent (dueM k (pick m S)) b i * ent (pick m S) l b) fun b h => by
    obtain ⟨h1, h2⟩ := hb b h
    have e : S.getD b 0 = S[b] := by rw [List.getD_eq_getElem?_getD, List.getElem?_eq_getElem h1]; rfl
    rw [e, tr_fn h2, pick_ent h1], unit_get hi]
  by_cases hl : l < k
  · rw [due_sum hk hs hl hi]
    by_cases e : l = i
    · rw [if_pos e, if_pos e.symm]
    · rw [if_neg e, if_neg fun z => e z.symm]
  · rw [sumF_congr (g := fun _ => 0) fun b _ => ?_, sumF_zero, if_neg (by omega), Int.mul_zero]
    have : ent (pick m S) l b = 0 := by
      unfold ent
      rw [List.getD_eq_getElem?_getD (l := pick m S), List.getElem?_eq_none (by rw [hs.len]; omega)]
      rfl
    rw [this, Int.mul_zero]
def minors (n k : Nat) (m : List (List Int)) : List Int := (chAll n k).map fun S => detL k (pick m S)
theorem prim_of {n k : Nat} {m : List (List Int)} (h4 : n ≤ 4) (hk : k ≤ n) (hm : m.length = k) (hg : gcF (minors n k m) = 1) : Full k (transp m n) := fun i hi => by
  have h := Jd.fold (k := k) (R := transp m n) (minors n k m) 0 (Jd.zero _ _) fun d hd => by
    obtain ⟨S, hS, rfl⟩ := List.mem_map.mp hd
    obtain ⟨h1, h2⟩ := ch_ok h4 hk S hS
    exact minor_J (by omega) hm h1 h2
  have e : (minors n k m).foldl (fun g d => Nat.gcd g d.natAbs) 0 = 1 := hg
  rw [e] at h
  exact (h i hi).cong fun l => Int.one_mul _
/-- the coefficients of the unit vectors -/
theorem full_out {n k : Nat} {m : List (List Int)} (h : Full k (transp m n)) : ∃ c : Nat → Nat → Int, ∀ i l, i < k → (sumF n fun j => c i j * ent m l j) = if i = l then 1 else 0 := by
  have hy : ∀ i, ∃ c : Nat → Int, i < k → ∀ l, (sumF n fun j => c j * ent m l j) = if i = l then 1 else 0 := fun i => by
    by_cases hi : i < k
    · obtain ⟨c, hc⟩ := spn_out (h i hi)
      refine ⟨c, fun _ l => ?_⟩
      have h1 := hc l
      rw [unit_get hi, transp_len] at h1
      rw [h1]
      exact sumF_congr fun j hj => by rw [tr_fn hj]
    · exact ⟨fun _ => 0, fun h => absurd h hi⟩
  obtain ⟨c, hc⟩ := Classical.axiomOfChoice hy
  exact ⟨c, fun i l hi => hc i hi l⟩
theorem one_of {g : Nat} (h : ((g : Nat) : Int) ∣ 1) : g = 1 := Nat.dvd_one.mp (by exact_mod_cast h)
theorem sq_unit {n : Nat} {m : List (List Int)} (h4 : n ≤ 4) (hs : Sz n m) : Full n (transp m n) ↔ (detL n m).natAbs = 1 := by
  have e1 : (detL n (unitM n)).natAbs = 1 := (uniT_unit h4).det
  have hU : Full n (transp (unitM n) n) := by
    have := full_take (k := n) h4 (unitM_sz n) e1 (Nat.le_refl _)
    rwa [List.take_of_length_le (by rw [unitM_len]; exact Nat.le_refl _)] at this
  have h := full_mul h4 hU unitM_len (unitM_sz n).row h4 hs
  have e : mulM m (unitM n) n = m := mat_ext ⟨by rw [mulM_len, hs.len], mulM_row⟩ hs fun l i hl hi => by
    rw [mul_ent (by rw [hs.len]; exact hl) hi hs.row unitM_len]
    have key : ∀ c, c ≤ n → (sumF c fun a => ent m l a * ent (unitM n) a i) = if i < c then ent m l i else 0 := fun c => by
      induction c with
      | zero => intro _; rfl
      | succ c ih =>
        intro hc
        show (sumF c fun a => ent m l a * ent (unitM n) a i) + ent m l c * ent (unitM n) c i = _
        rw [ih (by omega), unitM_ent (by omega), unit_get (by omega)]
        by_cases h1 : c = i
        · subst h1
          rw [if_neg (by omega), if_pos rfl, if_pos (by omega)]
          omega
        · rw [if_neg h1, Int.mul_zero]
          by_cases h2 : i < c
          · rw [if_pos h2, if_pos (by omega)]
            omega
          · rw [if_neg h2, if_neg (by omega)]
            rfl
    rw [key n (Nat.le_refl _), if_pos hi]
  rwa [e] at h

end
end K06
namespace K06
open PySem PySem.Spec PyProof.Rows L2 Gm
open C8 (Cal Met Mak pe_c pe_mt pe_mt0 pe_mk)
section
variable {P : Program} {w : World} {K : PySem.W.Frag} {mg : Str → Option Value} {base : Heap}
theorem cb23 (x0 x1 x2 y0 y1 y2 a b c d e f : Int) : D2 (0 + x0 * a + x1 * b + x2 * c) (0 + x0 * d + x1 * e + x2 * f) (0 + y0 * a + y1 * b + y2 * c) (0 + y0 * d + y1 * e + y2 * f) = (D2 x0 x1 y0 y1) * (D2 a b d e) + (D2 x0 x2 y0 y2) * (D2 a c d f) + (D2 x1 x2 y1 y2) * (D2 b c e f) := by
  unfold D2
  grind
theorem cb24 (x0 x1 x2 x3 y0 y1 y2 y3 a b c d e f g h : Int) : D2 (0 + x0 * a + x1 * b + x2 * c + x3 * d) (0 + x0 * e + x1 * f + x2 * g + x3 * h) (0 + y0 * a + y1 * b + y2 * c + y3 * d) (0 + y0 * e + y1 * f + y2 * g + y3 * h) = (D2 x0 x1 y0 y1) * (D2 a b e f) + (D2 x0 x2 y0 y2) * (D2 a c e g) + (D2 x0 x3 y0 y3) * (D2 a d e h) + (D2 x1 x2 y1 y2) * (D2 b c f g) + (D2 x1 x3 y1 y3) * (D2 b d f h) + (D2 x2 x3 y2 y3) * (D2 c d g h) := by
  unfold D2
  grind
theorem cb34 (x0 x1 x2 x3 y0 y1 y2 y3 z0 z1 z2 z3 a b c d e f g h k l o p : Int) : D3 (0 + x0 * a + x1 * b + x2 * c + x3 * d) (0 + x0 * e + x1 * f + x2 * g + x3 * h) (0 + x0 * k + x1 * l + x2 * o + x3 * p) (0 + y0 * a + y1 * b + y2 * c + y3 * d) (0 + y0 * e + y1 * f + y2 * g + y3 * h) (0 + y0 * k + y1 * l + y2 * o + y3 * p) (0 + z0 * a + z1 * b + z2 * c + z3 * d) (0 + z0 * e + z1 * f + z2 * g + z3 * h) (0 + z0 * k + z1 * l + z2 * o + z3 * p) = (D3 x0 x1 x2 y0 y1 y2 z0 z1 z2) * (D3 a b c e f g k l o) + (D3 x0 x1 x3 y0 y1 y3 z0 z1 z3) * (D3 a b d e f h k l p) + (D3 x0 x2 x3 y0 y2 y3 z0 z2 z3) * (D3 a c d e g h k o p) + (D3 x1 x2 x3 y1 y2 y3 z1 z2 z3) * (D3 b c d f g h l o p) := by
  unfold D3 D2
  grind
theorem gc_all {ms : List Int} (h : ∀ g : Int, (∀ d ∈ ms, g ∣ d) → g ∣ 1) : gcF ms = 1 := one_of (h _ fun _ hd => gcF_dvd hd)
theorem sh12 {m : List (List Int)} (hm : m.length = 1) (hr : ∀ r ∈ m, r.length = 2) : ∃ a b, m = [[a, b]] := by
  match m, hm, hr with
  | [r1], _, hr =>
    obtain ⟨a, b, rfl⟩ := row2 (hr r1 (by simp))
    exact ⟨a, b, rfl⟩
theorem sh13 {m : List (List Int)} (hm : m.length = 1) (hr : ∀ r ∈ m, r.length = 3) : ∃ a b c, m = [[a, b, c]] := by
  match m, hm, hr with
  | [r1], _, hr =>
    obtain ⟨a, b, c, rfl⟩ := row3 (hr r1 (by simp))
    exact ⟨a, b, c, rfl⟩
theorem sh14 {m : List (List Int)} (hm : m.length = 1) (hr : ∀ r ∈ m, r.length = 4) : ∃ a b c d, m = [[a, b, c, d]] := by
  match m, hm, hr with
  | [r1], _, hr =>
    obtain ⟨a, b, c, d, rfl⟩ := row4 (hr r1 (by simp))
    exact ⟨a, b, c, d, rfl⟩
theorem sh23 {m : List (List Int)} (hm : m.length = 2) (hr : ∀ r ∈ m, r.length = 3) : ∃ a b c d e f, m = [[a, b, c], [d, e, f]] := by
  match m, hm, hr with
  | [r1, r2], _, hr =>
    obtain ⟨a, b, c, rfl⟩ := row3 (hr r1 (by simp))
    obtain ⟨d, e, f, rfl⟩ := row3 (hr r2 (by simp))
    exact ⟨a, b, c, d, e, f, rfl⟩
theorem sh24 {m : List (List Int)} (hm : m.length = 2) (hr : ∀ r ∈ m, r.length = 4) : ∃ a b c d e f g h, m = [[a, b, c, d], [e, f, g, h]] := by
  match m, hm, hr with
  | [r1, r2], _, hr =>
    obtain ⟨a, b, c, d, rfl⟩ := row4 (hr r1 (by simp))
    obtain ⟨e, f, g, h, rfl⟩ := row4 (hr r2 (by simp))
    exact ⟨a, b, c, d, e, f, g, h, rfl⟩
theorem sh34 {m : List (List Int)} (hm : m.length = 3) (hr : ∀ r ∈ m, r.length = 4) : ∃ a b c d e f g h k l o p, m = [[a, b, c, d], [e, f, g, h], [k, l, o, p]] := by
  match m, hm, hr with
  | [r1, r2, r3], _, hr =>
    obtain ⟨a, b, c, d, rfl⟩ := row4 (hr r1 (by simp))
    obtain ⟨e, f, g, h, rfl⟩ := row4 (hr r2 (by simp))
    obtain ⟨k, l, o, p, rfl⟩ := row4 (hr r3 (by simp))
    exact ⟨a, b, c, d, e, f, g, h, k, l, o, p, rfl⟩
theorem gc12 {m : List (List Int)} (hm : m.length = 1) (hr : ∀ r ∈ m, r.length = 2) (hf : Full 1 (transp m 2)) : gcF (minors 2 1 m) = 1 := by
  obtain ⟨a, b, rfl⟩ := sh12 hm hr
  obtain ⟨cf, hc⟩ := full_out hf
  have em : minors 2 1 _ = [detL 1 [[b]], detL 1 [[a]]] := rfl (a := minors 2 1 [[a, b]])
  rw [em]
  refine gc_all fun gg hg => ?_
  have d1 : gg ∣ b := by
    have := hg (detL 1 [[b]]) (by simp)
    rwa [detL1] at this
  have d0 : gg ∣ a := by
    have := hg (detL 1 [[a]]) (by simp)
    rwa [detL1] at this
  have h00 : 0 + cf 0 0 * a + cf 0 1 * b = 1 := hc 0 0 (by decide)
  rw [← h00]
  exact (Int.dvd_add (Int.dvd_add (Int.dvd_zero gg) (Int.dvd_trans d0 (Int.dvd_mul_left ..))) (Int.dvd_trans d1 (Int.dvd_mul_left ..)))
theorem gc13 {m : List (List Int)} (hm : m.length = 1) (hr : ∀ r ∈ m, r.length = 3) (hf : Full 1 (transp m 3)) : gcF (minors 3 1 m) = 1 := by
  obtain ⟨a, b, c, rfl⟩ := sh13 hm hr
  obtain ⟨cf, hc⟩ := full_out hf
  have em : minors 3 1 _ = [detL 1 [[c]], detL 1 [[b]], detL 1 [[a]]] := rfl (a := minors 3 1 [[a, b, c]])
  rw [em]
  refine gc_all fun gg hg => ?_
  have d2 : gg ∣ c := by
    have := hg (detL 1 [[c]]) (by simp)
    rwa [detL1] at this
  have d1 : gg ∣ b := by
    have := hg (detL 1 [[b]]) (by simp)
    rwa [detL1] at this
  have d0 : gg ∣ a := by
    have := hg (detL 1 [[a]]) (by simp)
    rwa [detL1] at this
  have h00 : 0 + cf 0 0 * a + cf 0 1 * b + cf 0 2 * c = 1 := hc 0 0 (by decide)
  rw [← h00]
  exact (Int.dvd_add (Int.dvd_add (Int.dvd_add (Int.dvd_zero gg) (Int.dvd_trans d0 (Int.dvd_mul_left ..))) (Int.dvd_trans d1 (Int.dvd_mul_left ..))) (Int.dvd_trans d2 (Int.dvd_mul_left ..)))
theorem gc14 {m : List (List Int)} (hm : m.length = 1) (hr : ∀ r ∈ m, r.length = 4) (hf : Full 1 (transp m 4)) : gcF (minors 4 1 m) = 1 := by
  obtain ⟨a, b, c, d, rfl⟩ := sh14 hm hr
  obtain ⟨cf, hc⟩ := full_out hf
  have em : minors 4 1 _ = [detL 1 [[d]], detL 1 [[c]], detL 1 [[b]], detL 1 [[a]]] := rfl (a := minors 4 1 [[a, b, c, d]])
  rw [em]
  refine gc_all fun gg hg => ?_
  have d3 : gg ∣ d := by
    have := hg (detL 1 [[d]]) (by simp)
    rwa [detL1] at this
  have d2 : gg ∣ c := by
    have := hg (detL 1 [[c]]) (by simp)
    rwa [detL1] at this
  have d1 : gg ∣ b := by
    have := hg (detL 1 [[b]]) (by simp)
    rwa [detL1] at this
  have d0 : gg ∣ a := by
    have := hg (detL 1 [[a]]) (by simp)
    rwa [detL1] at this
  have h00 : 0 + cf 0 0 * a + cf 0 1 * b + cf 0 2 * c + cf 0 3 * d = 1 := hc 0 0 (by decide)
  rw [← h00]
  exact (Int.dvd_add (Int.dvd_add (Int.dvd_add (Int.dvd_add (Int.dvd_zero gg) (Int.dvd_trans d0 (Int.dvd_mul_left ..))) (Int.dvd_trans d1 (Int.dvd_mul_left ..))) (Int.dvd_trans d2 (Int.dvd_mul_left ..))) (Int.dvd_trans d3 (Int.dvd_mul_left ..)))
theorem gc23 {m : List (List Int)} (hm : m.length = 2) (hr : ∀ r ∈ m, r.length = 3) (hf : Full 2 (transp m 3)) : gcF (minors 3 2 m) = 1 := by
  obtain ⟨a, b, c, d, e, f, rfl⟩ := sh23 hm hr
  obtain ⟨cf, hc⟩ := full_out hf
  have em : minors 3 2 _ = [detL 2 [[b, c], [e, f]], detL 2 [[a, c], [d, f]], detL 2 [[a, b], [d, e]]] := rfl (a := minors 3 2 [[a, b, c], [d, e, f]])
  rw [em]
  refine gc_all fun gg hg => ?_
  have d12 : gg ∣ D2 b c e f := by
    have := hg (detL 2 [[b, c], [e, f]]) (by simp)
    rwa [detL2] at this
  have d02 : gg ∣ D2 a c d f := by
    have := hg (detL 2 [[a, c], [d, f]]) (by simp)
    rwa [detL2] at this
  have d01 : gg ∣ D2 a b d e := by
    have := hg (detL 2 [[a, b], [d, e]]) (by simp)
    rwa [detL2] at this
  have h00 : 0 + cf 0 0 * a + cf 0 1 * b + cf 0 2 * c = 1 := hc 0 0 (by decide)
  have h01 : 0 + cf 0 0 * d + cf 0 1 * e + cf 0 2 * f = 0 := hc 0 1 (by decide)
  have h10 : 0 + cf 1 0 * a + cf 1 1 * b + cf 1 2 * c = 0 := hc 1 0 (by decide)
  have h11 : 0 + cf 1 0 * d + cf 1 1 * e + cf 1 2 * f = 1 := hc 1 1 (by decide)
  have e := cb23 (cf 0 0) (cf 0 1) (cf 0 2) (cf 1 0) (cf 1 1) (cf 1 2) a b c d e f
  rw [h00, h01, h10, h11] at e
  have e1 : D2 1 0 0 1 = 1 := by decide
  rw [e1] at e
  rw [e]
  exact (Int.dvd_add (Int.dvd_add (Int.dvd_trans d01 (Int.dvd_mul_left ..)) (Int.dvd_trans d02 (Int.dvd_mul_left ..))) (Int.dvd_trans d12 (Int.dvd_mul_left ..)))
theorem gc24 {m : List (List Int)} (hm : m.length = 2) (hr : ∀ r ∈ m, r.length = 4) (hf : Full 2 (transp m 4)) : gcF (minors 4 2 m) = 1 := by
  obtain ⟨a, b, c, d, e, f, g, h, rfl⟩ := sh24 hm hr
  obtain ⟨cf, hc⟩ := full_out hf
  have em : minors 4 2 _ = [detL 2 [[c, d], [g, h]], detL 2 [[b, d], [f, h]], detL 2 [[b, c], [f, g]], detL 2 [[a, d], [e, h]], detL 2 [[a, c], [e, g]], detL 2 [[a, b], [e, f]]] := rfl (a := minors 4 2 [[a, b, c, d], [e, f, g, h]])
  rw [em]
  refine gc_all fun gg hg => ?_
  have d23 : gg ∣ D2 c d g h := by
    have := hg (detL 2 [[c, d], [g, h]]) (by simp)
    rwa [detL2] at this
  have d13 : gg ∣ D2 b d f h := by
    have := hg (detL 2 [[b, d], [f, h]]) (by simp)
    rwa [detL2] at this
  have d12 : gg ∣ D2 b c f g := by
    have := hg (detL 2 [[b, c], [f, g]]) (by simp)
    rwa [detL2] at this
  have d03 : gg ∣ D2 a d e h := by
    have := hg (detL 2 [[a, d], [e, h]]) (by simp)
    rwa [detL2] at this
  have d02 : gg ∣ D2 a c e g := by
    have := hg (detL 2 [[a, c], [e, g]]) (by simp)
    rwa [detL2] at this
  have d01 : gg ∣ D2 a b e f := by
    have := hg (detL 2 [[a, b], [e, f]]) (by simp)
    rwa [detL2] at this
  have h00 : 0 + cf 0 0 * a + cf 0 1 * b + cf 0 2 * c + cf 0 3 * d = 1 := hc 0 0 (by decide)
  have h01 : 0 + cf 0 0 * e + cf 0 1 * f + cf 0 2 * g + cf 0 3 * h = 0 := hc 0 1 (by decide)
  have h10 : 0 + cf 1 0 * a + cf 1 1 * b + cf 1 2 * c + cf 1 3 * d = 0 := hc 1 0 (by decide)
  have h11 : 0 + cf 1 0 * e + cf 1 1 * f + cf 1 2 * g + cf 1 3 * h = 1 := hc 1 1 (by decide)
  have e := cb24 (cf 0 0) (cf 0 1) (cf 0 2) (cf 0 3) (cf 1 0) (cf 1 1) (cf 1 2) (cf 1 3) a b c d e f g h
  rw [h00, h01, h10, h11] at e
  have e1 : D2 1 0 0 1 = 1 := by decide
  rw [e1] at e
  rw [e]
  exact (Int.dvd_add (Int.dvd_add (Int.dvd_add (Int.dvd_add (Int.dvd_add (Int.dvd_trans d01 (Int.dvd_mul_left ..)) (Int.dvd_trans d02 (Int.dvd_mul_left ..))) (Int.dvd_trans d03 (Int.dvd_mul_left ..))) (Int.dvd_trans d12 (Int.dvd_mul_left ..))) (Int.dvd_trans d13 (Int.dvd_mul_left ..))) (Int.dvd_trans d23 (Int.dvd_mul_left ..)))
theorem gc34 {m : List (List Int)} (hm : m.length = 3) (hr : ∀ r ∈ m, r.length = 4) (hf : Full 3 (transp m 4)) : gcF (minors 4 3 m) = 1 := by
  obtain ⟨a, b, c, d, e, f, g, h, k, l, o, p, rfl⟩ := sh34 hm hr
  obtain ⟨cf, hc⟩ := full_out hf
  have em : minors 4 3 _ = [detL 3 [[b, c, d], [f, g, h], [l, o, p]], detL 3 [[a, c, d], [e, g, h], [k, o, p]], detL 3 [[a, b, d], [e, f, h], [k, l, p]], detL 3 [[a, b, c], [e, f, g], [k, l, o]]] := rfl (a := minors 4 3 [[a, b, c, d], [e, f, g, h], [k, l, o, p]])
  rw [em]
  refine gc_all fun gg hg => ?_
  have d123 : gg ∣ D3 b c d f g h l o p := by
    have := hg (detL 3 [[b, c, d], [f, g, h], [l, o, p]]) (by simp)
    rwa [detL3] at this
  have d023 : gg ∣ D3 a c d e g h k o p := by
    have := hg (detL 3 [[a, c, d], [e, g, h], [k, o, p]]) (by simp)
    rwa [detL3] at this
  have d013 : gg ∣ D3 a b d e f h k l p := by
    have := hg (detL 3 [[a, b, d], [e, f, h], [k, l, p]]) (by simp)
    rwa [detL3] at this
  have d012 : gg ∣ D3 a b c e f g k l o := by
    have := hg (detL 3 [[a, b, c], [e, f, g], [k, l, o]]) (by simp)
    rwa [detL3] at this
  have h00 : 0 + cf 0 0 * a + cf 0 1 * b + cf 0 2 * c + cf 0 3 * d = 1 := hc 0 0 (by decide)
  have h01 : 0 + cf 0 0 * e + cf 0 1 * f + cf 0 2 * g + cf 0 3 * h = 0 := hc 0 1 (by decide)
  have h02 : 0 + cf 0 0 * k + cf 0 1 * l + cf 0 2 * o + cf 0 3 * p = 0 := hc 0 2 (by decide)
  have h10 : 0 + cf 1 0 * a + cf 1 1 * b + cf 1 2 * c + cf 1 3 * d = 0 := hc 1 0 (by decide)
  have h11 : 0 + cf 1 0 * e + cf 1 1 * f + cf 1 2 * g + cf 1 3 * h = 1 := hc 1 1 (by decide)
  have h12 : 0 + cf 1 0 * k + cf 1 1 * l + cf 1 2 * o + cf 1 3 * p = 0 := hc 1 2 (by decide)
  have h20 : 0 + cf 2 0 * a + cf 2 1 * b + cf 2 2 * c + cf 2 3 * d = 0 := hc 2 0 (by decide)
  have h21 : 0 + cf 2 0 * e + cf 2 1 * f + cf 2 2 * g + cf 2 3 * h = 0 := hc 2 1 (by decide)
  have h22 : 0 + cf 2 0 * k + cf 2 1 * l + cf 2 2 * o + cf 2 3 * p = 1 := hc 2 2 (by decide)
  have e := cb34 (cf 0 0) (cf 0 1) (cf 0 2) (cf 0 3) (cf 1 0) (cf 1 1) (cf 1 2) (cf 1 3) (cf 2 0) (cf 2 1) (cf 2 2) (cf 2 3) a b c d e f g h k l o p
  rw [h00, h01, h02, h10, h11, h12, h20, h21, h22] at e
  have e1 : D3 1 0 0 0 1 0 0 0 1 = 1 := by decide
  rw [e1] at e
  rw [e]
  exact (Int.dvd_add (Int.dvd_add (Int.dvd_add (Int.dvd_trans d012 (Int.dvd_mul_left ..)) (Int.dvd_trans d013 (Int.dvd_mul_left ..))) (Int.dvd_trans d023 (Int.dvd_mul_left ..))) (Int.dvd_trans d123 (Int.dvd_mul_left ..)))
theorem pick_all {n : Nat} {m : List (List Int)} (h : ∀ r ∈ m, r.length = n) : pick m ((List.range n).map fun i : Nat => (i : Int)) = m := by
  unfold pick
  have e : m.map (fun row => ((List.range n).map fun i : Nat => (i : Int)).map fun z => row.getD z.toNat 0) = m.map id := List.map_congr_left fun r hr => by
    rw [List.map_map]
    apply List.ext_getElem
    · rw [List.length_map, List.length_range]
      exact (h r hr).symm
    · intro i h1 h2
      rw [List.getElem_map, List.getElem_range]
      show r.getD ((i : Int)).toNat 0 = r[i]
      have h2' : i < r.length := h2
      rw [Int.toNat_natCast, List.getD_eq_getElem?_getD, List.getElem?_eq_getElem h2']
      rfl
  rw [e, List.map_id]
theorem ch_self {n : Nat} (h4 : n ≤ 4) : chAll n n = [(List.range n).map fun i : Nat => (i : Int)] := by
  rcases (show n = 0 ∨ n = 1 ∨ n = 2 ∨ n = 3 ∨ n = 4 by omega) with rfl | rfl | rfl | rfl | rfl <;> decide
theorem ch_zero {n : Nat} (h4 : n ≤ 4) : chAll n 0 = [[]] := by
  rcases (show n = 0 ∨ n = 1 ∨ n = 2 ∨ n = 3 ∨ n = 4 by omega) with rfl | rfl | rfl | rfl | rfl <;> decide
theorem prim_gcd {n k : Nat} {m : List (List Int)} (h4 : n ≤ 4) (hk : k ≤ n) (hm : m.length = k) (hr : ∀ r ∈ m, r.length = n) : Full k (transp m n) ↔ gcF (minors n k m) = 1 := by
  refine ⟨fun hf => ?_, prim_of h4 hk hm⟩
  rcases Nat.lt_or_eq_of_le hk with h | h
  · rcases (show k = 0 ∨ (k = 1 ∧ n = 2) ∨ (k = 1 ∧ n = 3) ∨ (k = 1 ∧ n = 4) ∨ (k = 2 ∧ n = 3) ∨ (k = 2 ∧ n = 4) ∨ (k = 3 ∧ n = 4) by omega) with rfl | ⟨rfl, rfl⟩ | ⟨rfl, rfl⟩ | ⟨rfl, rfl⟩ | ⟨rfl, rfl⟩ | ⟨rfl, rfl⟩ | ⟨rfl, rfl⟩
    · unfold minors
      rw [ch_zero h4]
      have e0 : m = [] := List.eq_nil_of_length_eq_zero hm
      subst e0
      rfl
    · exact gc12 hm hr hf
    · exact gc13 hm hr hf
    · exact gc14 hm hr hf
    · exact gc23 hm hr hf
    · exact gc24 hm hr hf
    · exact gc34 hm hr hf
  · subst h
    unfold minors
    rw [ch_self h4]
    show Nat.gcd 0 (detL k (pick m _)).natAbs = 1
    rw [Nat.gcd_zero_left, pick_all hr]
    exact (sq_unit h4 ⟨hm, hr⟩).mp hf

end
end K06
namespace K06
open PySem PySem.Spec PyProof.Rows L2 Gm
open C8 (Cal Met Mak pe_c pe_mt pe_mt0 pe_mk)
section
variable {P : Program} {w : World} {K : PySem.W.Frag} {mg : Str → Option Value} {base : Heap}
theorem pss_wk {X : Cx} {st : List Stmt} {t t' : TS} (h : PSs X st t) (hm : ∀ D σ H, t' D σ H → t D σ H) : PSs X st t' := ⟨fun pins s σ H D I q => h.run pins s σ H D I (hm D σ H q)⟩
def tK (M : L2.St → Hp → Prop) : TS := fun D σ H => M σ H ∧ ∀ H', D.rt (.bl true) H'
abbrev XL (P : Program) (w : World) {K : PySem.W.Frag} {mg : Str → Option Value} (base : Heap) (T : Top K mg) (cdv : Value) (A : Around) (outer : List Env) (s : Shared) (H : Hp) (E : XK) : Cx :=
  (cxOf CX0 P w K mg base ["script", "state", "n", "k", "whole", "mixed_v", "told", "rows", "common", "columns", "row", "j"] "law" (defScope s_law) T.a_law cdv A outer s H E).nox
def sp_law (K : PySem.W.Frag) : Sp := fun vs H Q _ => ∃ (a : Addr) (ns : List Int), vs = [.ref a] ∧ SqL K H a (ns.map V.int) ∧ ns.length ≤ 63 ∧ (∀ z ∈ ns, Builtin.Int.intBits z ≤ 1048576) ∧ ∀ H', Q (.bl true) H'
theorem gridS {K : PySem.W.Frag} {C : Addr} {H H' : Hp} {p : Addr} {v : V} {m : List (List Int)} {w : Nat} (st : StAt H p) (o : Off p H H') (h : IsGrid K C H v m w) : IsGrid K C H' v m w := by
  obtain ⟨⟨q, dx, t, e, ho, ht⟩, hw⟩ := h
  obtain ⟨s0, t0, el, _⟩ := st
  exact ⟨⟨q, dx, t, e, o _ _ (ne_of ho el (by intro z; cases z)) ho, ht.off el o⟩, hw⟩
theorem rowS {K : PySem.W.Frag} {H H' : Hp} {p : Addr} {v : V} {x : List Int} (st : StAt H p) (o : Off p H H') (h : TRow K H v x) : TRow K H' v x := let ⟨_, _, el, _⟩ := st; TRow.off el o h

end
end K06
namespace K06
open PySem PySem.Spec PyProof.Rows L2 Gm
open C8 (Cal Met Mak pe_c pe_mt pe_mt0 pe_mk)
section
variable {P : Program} {w : World} {K : PySem.W.Frag} {mg : Str → Option Value} {base : Heap}
theorem make_grid2 {K : PySem.W.Frag} {C x dx : Addr} {H1 : Hp} {v : V} {m : List (List Int)} {w : Nat} {Q : VK} {E : XK} (nx : H1 x = none) (nd : H1 dx = none) (hm : IRows K H1 v m) (hl : m.length ≤ 1000) (hw : w ≤ 1000) (hrw : ∀ r ∈ m, r.length = w) (q : ∀ H', Same H1 H' → IsGrid K C H' (.ref x) m w → Q .non H') :
    sp_Grid_init K C [.ref x, v, .int w] (upd (upd H1 dx (.own x)) x (.ins C dx [])) Q E := by
  have s0 : Same H1 (upd (upd H1 dx (.own x)) x (.ins C dx [])) := fun b o e => by
    rw [upd_ne (ne_of_none e nx), upd_ne (ne_of_none e nd)]
    exact e
  refine ⟨x, dx, v, m, w, rfl, upd_same, hm.same s0, hl, hw, hrw, fun t H' o ho ht => ?_⟩
  exact q _ (fun b u e => o _ _ (ne_of_none e nx) (s0 _ _ e)) ⟨⟨x, dx, t, rfl, ho, ht⟩, hrw⟩
theorem irows_t {K : PySem.W.Frag} {H : Hp} {v : V} {m : List (List Int)} (h : TRows K H v m) : IRows K H v m := let ⟨a, ws, e, ha, hp⟩ := h; ⟨a, ws, e, .inr ha, L2.Paired.mapP hp fun _ _ ⟨b, eb, hb⟩ => ⟨b, eb, .inr hb⟩⟩
structure F8 (K : PySem.W.Frag) (H : Hp) (p : Addr) (wv : V) (n k : Nat) (W : List (List Int)) : Prop where
  st : StAt H p
  hw : TRows K H wv W
  uni : UniT n 4 W
  n0 : 0 < n
  n4 : n ≤ 4
  kn : k ≤ n
theorem F8.same {K : PySem.W.Frag} {H H' : Hp} {p : Addr} {wv : V} {n k : Nat} {W : List (List Int)} (s : Same H H') (f : F8 K H p wv n k W) : F8 K H' p wv n k W := ⟨f.st.same s, TRows.same s f.hw, f.uni, f.n0, f.n4, f.kn⟩
theorem F8.off {K : PySem.W.Frag} {H H' : Hp} {p : Addr} {wv : V} {n k : Nat} {W : List (List Int)} (o : Off p H H') (st : StAt H' p) (f : F8 K H p wv n k W) : F8 K H' p wv n k W := ⟨st, trowsS f.st o f.hw, f.uni, f.n0, f.n4, f.kn⟩
theorem uni_cost {n : Nat} {W : List (List Int)} (h : UniT n 4 W) : ∀ r ∈ W, Cost 12 r := fun r hr x hx => by
  have h1 := l1_at hx
  have h2 := h.l1 r hr
  omega
def M8 (K : PySem.W.Frag) : L2.St → Hp → Prop := fun σ H => ∃ (s0 s5 s6 : Option V) (p : Addr) (wv : V) (n k : Nat) (W : List (List Int)),
  σ = [s0, some (.ref p), some (.int (n : Int)), some (.int (k : Int)), some wv, s5, s6, none, none, none, none, none] ∧ F8 K H p wv n k W
theorem ch8 (T : Top K mg) (hN : base.NoSeer) (hT : P.given.tree = none) {cdv : Value} {A : Around} {outer : List Env} {s : Shared} {H0 : Hp} {E : XK} (hr : Room 46 (A.deeper (envOfC "law" (defScope s_law) s.heap.objs.size T.a_law cdv))) :
    PSs (XL P w base T cdv A outer s H0 E) ((defBody s_law).drop 8) (tK (M8 K)) := by
  refine pss_wk ((pss_cons (ps_set (i := 7) sc_law.nd rfl (by first | exact .inl rfl | exact .inr rfl) (pe_c (cal_law_rows T hN hT) hr (by decide) (by rfl) (pa_cons (pv 1) (pa_cons (pv 3) (pa_cons (pv 2) (pa_cons pe_int pa_nil))))))
      (pss_cons (ps_set (i := 8) sc_law.nd rfl (by first | exact .inl rfl | exact .inr rfl) pe_int)
      (pss_cons (ps_for PassesOwn.never rfl (piS K rfl (pe_c (cal_law_choices T hN hT) hr (by decide) (by rfl) (pa_cons (pv 2) (pa_cons (pv 3) pa_nil)))) (pg_name (i := 9) sc_law.nd rfl (by first | exact .inl rfl | exact .inr rfl))
      (pss_one (ps_set (i := 8) sc_law.nd rfl (by first | exact .inl rfl | exact .inr rfl) (pe_c (cal_law_gcd T hN hT) hr (by decide) (by rfl) (pa_cons (pv 8) (pa_cons (pe_c (cal_law_determinant T hN hT) hr (by decide) (by rfl) (pa_cons (pe_lc (own := [("row", 10)]) (g := (gName 10)) (by rfl) sc_law.nd (piS K rfl (pv 7)) ((by show BlkOk ["script", "state", "n", "k", "whole", "mixed_v", "told", "rows", "common", "columns", "row", "j"] (defScope s_law) _ _; exact blkOk_by (by decide +kernel))) (fun _ _ _ _ _ => (pg_name (i := 10) sc_law.nd rfl (by first | exact .inl rfl | exact .inr rfl))) (fun _ _ _ _ _ => pts_nil) (fun _ _ _ _ _ => (pe_callTy (tupK K rfl) (by rfl) T.z_tuple (by decide +kernel) (pa_cons (pe_lc (own := [("j", 11)]) (g := (gName 11)) (by rfl) sc_law.nd (piS K rfl (pv 9)) ((by show BlkOk ["script", "state", "n", "k", "whole", "mixed_v", "told", "rows", "common", "columns", "row", "j"] (relS _ (defScope s_law)) _ _; exact blkOk_by (by decide +kernel))) (fun _ _ _ _ _ => (pg_name (i := 11) sc_law.nd rfl (by first | exact .inl rfl | exact .inr rfl))) (fun _ _ _ _ _ => pts_nil) (fun _ _ _ _ _ => (pe_ix (ixT K rfl) (pv 10) (pv 11) (fun _ _ => rfl)))) pa_nil)))) pa_nil)) pa_nil))))))
      (pss_cons (ps_if (pt_cmpR op_ne (pe_mt0 (met_Grid_is_primitive T hN hT) hr (by decide) (pe_mk (mak_Grid T hN hT) hr (by decide) (by rfl) (pa_cons (pv 7) (pa_cons (pv 2) pa_nil)))) (pe_cmpR op_eq (pv 8) pe_int (nomark _)) (nomark _))
      (pss_one (ps_ret pe_bl))
      pss_nil)
      (pss_one (ps_ret (pe_cmpR op_isBl (pe_mt0 (met_Grid_is_primitive T hN hT) hr (by decide) (pe_mk (mak_Grid T hN hT) hr (by decide) (by rfl) (pa_cons (pe_op (catK K rfl) (pv 4) (pe_tup (pa_cons (pe_ix (ixT K rfl) (pv 4) pe_int (fun _ _ => rfl)) pa_nil))) (pa_cons (pv 2) pa_nil)))) pe_bl (nomark _))))))))) ?_
  rintro D σ H ⟨⟨s0, s5, s6, p, wv, n, k, W, rfl, f⟩, q⟩
  have n0 := f.n0
  have n4 := f.n4
  have kn := f.kn
  refine ⟨_, rfl, _, rfl, _, rfl, p, k, n, 4, rfl, f.st, by omega, by omega, by decide, fun rv R H1 o1 st1 hR lR rR bR => ?_⟩
  have f1 := f.off o1 st1
  refine ⟨_, rfl, _, rfl, n, k, rfl, by omega, by omega, fun cv H2 s2 hc => ?_⟩
  obtain ⟨C, wc, rfl, hC, hpC⟩ := id hc
  have lwc := Paired.length hpC
  refine ⟨C, wc, rfl, .inl (.inl (.inl hC)), fun J G W2 hG => ?_⟩
  have f2 := f1.same s2
  have hR2 := TRows.same s2 hR
  obtain ⟨ar, wr, rfl, har, hpr⟩ := id hR2
  have lwr := Paired.length hpr
  refine for_it W2 (fun i σ H3 => ∃ (y9 : Option V), σ = [s0, some (.ref p), some (.int (n : Int)), some (.int (k : Int)), some wv, s5, s6, some (.ref ar), some (.int ((gcF ((minors n k R).take i) : Nat) : Int)), y9, none, none] ∧ Same H2 H3) ⟨none, rfl, Same.refl _⟩ (fun i σ H3 _ ⟨_, _, s3⟩ => hG _ fun b _ o e => s3 b o e) ?_ ?_
  · rintro i x σ H3 H3' hi ⟨y9, rfl, s3⟩ ⟨rfl, ex⟩
    obtain ⟨S, eS, hS⟩ := Paired.getR hpC ex
    obtain ⟨hSl, hSz⟩ := ch_ok n4 kn S (List.mem_of_getElem? eS)
    obtain ⟨b, rfl, hb⟩ := TRow.same s3 hS
    refine ⟨_, rfl, _, rfl, ar, wr, rfl, .inr (Same.seqT s3 har), fun J1 G1 W1 hG1 D1 hD1 => ?_⟩
    refine lc_all W1 hD1 (by omega) (fun Ha sa => hG1 Ha fun b _ o => sa b o) (fun l v Ha => ∃ r, (pick R S)[l]? = some r ∧ TRow K Ha v r) (fun l v H7 H8 acc e o ⟨r, er, h⟩ => ⟨r, er, TRow.off e o h⟩) ?_ gm_name ?_
    · rintro l x Ha Ha' acc Ko hl sa eDa ⟨rfl, ex⟩ kk
      obtain ⟨r, er, hrr⟩ := Paired.getR hpr ex
      have lr := rR r (List.mem_of_getElem? er)
      obtain ⟨c, rfl, hcr⟩ := TRow.same (s3.trans sa) hrr
      have hba := Same.seqT sa hb
      refine ⟨rfl, ?_⟩
      refine ⟨_, rfl, b, _, rfl, .inr hba, fun J3 G3 W3 hG3 D3 hD3 => ?_⟩
      refine lc_all W3 hD3 (by rw [List.length_map]; omega) (fun Hb sb => hG3 Hb fun b _ o => sb b o) (fun j v _ => ∃ z, (S.map fun z => r.getD z.toNat 0)[j]? = some z ∧ v = .int z) (fun _ _ _ _ _ _ _ h => h) ?_ gm_name ?_
      · rintro j y Hb Hb' acc3 Ko3 hj sb eDb ⟨rfl, ey⟩ k3
        obtain ⟨z, ez, rfl⟩ := ints_get ey
        obtain ⟨z0, z1⟩ := hSz z (List.mem_of_getElem? ez)
        refine ⟨rfl, ?_⟩
        refine ⟨_, rfl, _, rfl, c, _, _, _, rfl, rfl, Same.seqT sb hcr, at_getD (j := z.toNat) (by omega) (by omega), ?_⟩
        exact k3 _ _ (Same.refl _) ⟨_, by rw [List.getElem?_map, ez]; rfl, rfl⟩
      · intro Hb lb sb eDb hpb
        have el := ints_list (by rw [List.length_map, List.length_map]) hpb
        subst el
        refine ⟨D3, _, rfl, .inl ⟨.inl (.inl eDb), fun tp ntp => ?_⟩⟩
        exact kk _ _ (sb.trans (same_upd ntp)) ⟨_, by unfold pick; rw [List.getElem?_map, er]; rfl, tp, rfl, .inl (.inl upd_same)⟩
    · intro Ha la sa eDa hpa
      have hpp := paired_at (F := TRow K Ha) (m := pick R S) (by unfold pick; rw [List.length_map]; omega) hpa
      have sz := pick_sz lR hSl
      have bits : ∀ r ∈ pick R S, Bits 8 r := fun r hr z hz => by
        obtain ⟨row, hrow, rfl⟩ := List.mem_map.mp hr
        obtain ⟨z', _, rfl⟩ := List.mem_map.mp hz
        by_cases h : z'.toNat < row.length
        · have := bR row hrow _ (List.getElem_mem h)
          rw [List.getD_eq_getElem?_getD, List.getElem?_eq_getElem h]
          show (row[z'.toNat]).natAbs < 256
          omega
        · rw [getD_none (by omega)]
          decide
      refine ⟨k, by omega, .ref D1, pick R S, 8, rfl, ⟨D1, la, rfl, .inl (.inl (.inl eDa)), hpp⟩, ⟨sz.len, sz.row, bits⟩, by decide, fun Hc sc => ?_⟩
      refine ⟨_, _, rfl, ?_⟩
      refine ⟨some (.ref b), ?_, s3.trans (sa.trans sc)⟩
      have e1 : (minors n k R)[i]? = some (detL k (pick R S)) := by unfold minors; rw [List.getElem?_map, eS]; rfl
      have e2 : gcF ((minors n k R).take (i + 1)) = Nat.gcd (gcF ((minors n k R).take i)) (detL k (pick R S)).natAbs := by
        rw [take_add e1]
        unfold gcF
        rw [List.foldl_append]
        rfl
      rw [e2]
      rfl
  · rintro σ H3 ⟨y9, rfl, s3⟩
    have e3 : (minors n k R).take wc.length = minors n k R := List.take_of_length_le (by unfold minors; rw [List.length_map, lwc]; exact Nat.le_refl _)
    rw [e3]
    have hR3 := TRows.same s3 hR2
    have f3 := f2.same s3
    refine ⟨_, rfl, _, rfl, ?_⟩
    intro x xd nx nd ne
    refine make_grid2 nx nd (irows_t hR3) (by omega) (by omega) rR fun H4 s4 G4 => ⟨rfl, ?_⟩
    obtain ⟨⟨_, d4, t4, e4, ho4, ht4⟩, _⟩ := id G4
    cases e4
    refine ⟨x, d4, _, rfl, ho4, m_is_primitive _ _, .ref x, R, n, rfl, G4, by omega, n4, ?_, fun TT H5 s5 Rr => ?_⟩
    · intro r hr z hz
      have := bR r hr z hz
      omega
    rw [lR] at Rr
    rw [lR, prim_dec Rr (prim_gcd n4 kn lR rR)]
    refine ⟨_, rfl, rfl, rfl, _, rfl, ?_⟩
    rw [show (!decide (V.bl (decide (gcF (minors n k R) = 1)) = V.bl (decide (V.int ((gcF (minors n k R) : Nat) : Int) = V.int 1)))) = false by
      have e : decide (V.int ((gcF (minors n k R) : Nat) : Int) = V.int 1) = decide (gcF (minors n k R) = 1) := by
        by_cases h : gcF (minors n k R) = 1
        · rw [decide_eq_true h, decide_eq_true (by rw [h]; rfl)]
        · rw [decide_eq_false h, decide_eq_false fun z => h (by have := V.int.inj z; omega)]
      rw [e, decide_eq_true rfl]
      rfl]
    refine iteF ?_
    have f5 := f3.same (s4.trans s5)
    obtain ⟨aw, ww, rfl, haw, hpw⟩ := id f5.hw
    obtain ⟨e0, m0, l0⟩ := uniT_row f5.uni n0
    obtain ⟨v0, ev0, hv0⟩ := Paired.getL hpw e0
    have lww := Paired.length hpw
    have lW := f5.uni.sz.len
    refine ⟨_, rfl, _, rfl, aw, _, _, _, rfl, rfl, haw, at_of (j := 0) rfl ev0, by show 1 ≤ sizeLine; decide, fun tp ntp => ?_⟩
    have s6 := same_upd (o := .tup [v0]) ntp
    refine catA (xs := ww) (ys := [v0]) (Same.seqT s6 haw) (.inl (.inl upd_same)) (by show ww.length + 1 ≤ 1000; omega) fun tq H7 s7 h7 => ?_
    have s67 := s6.trans s7
    have hW7 : TRows K H7 (.ref tq) (W ++ [W.getD 0 []]) := ⟨tq, _, rfl, h7, Paired.snoc (L2.Paired.mapP hpw fun _ _ h => TRow.same s67 h) (TRow.same s67 hv0)⟩
    have lW1 : (W ++ [W.getD 0 []]).length = n + 1 := by rw [List.length_append, lW]; rfl
    have mW : ∀ r ∈ W ++ [W.getD 0 []], r ∈ W := fun r hr => by
      rcases List.mem_append.mp hr with h | h
      · exact h
      · rw [List.mem_singleton.mp h]
        exact m0
    refine ⟨_, rfl, ?_⟩
    intro y yd ny nyd ney
    refine make_grid2 ny nyd (irows_t hW7) (by omega) (by omega) (fun r hr => f.uni.sz.row r (mW r hr)) fun H8 s8 G8 => ⟨rfl, ?_⟩
    obtain ⟨⟨_, d8, t8, e8, ho8, ht8⟩, _⟩ := id G8
    cases e8
    refine ⟨y, d8, _, rfl, ho8, m_is_primitive _ _, .ref y, _, n, rfl, G8, by omega, n4, fun r hr => uni_cost f.uni r (mW r hr), fun TT2 H9 s9 R2 => ?_⟩
    have hlen := R2.len
    rw [transp_len] at hlen
    rw [decide_eq_false (fun e => by
      have := congrArg List.length e
      rw [unitM_len, lW1] at this
      unfold rowsT at this
      rw [List.length_map] at this
      omega)]
    refine ⟨false, false, rfl, rfl, ?_⟩
    trace_state
    exact q _

end
end K06
namespace K06
open PySem PySem.Spec PyProof.Rows L2 Gm
open C8 (Cal Met Mak pe_c pe_mt pe_mt0 pe_mk)
section
variable {P : Program} {w : World} {K : PySem.W.Frag} {mg : Str → Option Value} {base : Heap}
theorem paired_take {α β : Type} {F : α → β → Prop} : ∀ {xs : List α} {ys : List β} (k : Nat), Paired F xs ys → Paired F (xs.take k) (ys.take k)
  | _, _, _, .nil => by simp only [List.take_nil]; exact .nil
  | _, _, 0, .cons _ _ => by simp only [List.take_zero]; exact .nil
  | _, _, k + 1, .cons r t => by simp only [List.take_succ_cons]; exact .cons r (paired_take k t)
theorem dot_le {A B : Nat} : ∀ {x y : List Int}, (∀ a ∈ x, a.natAbs ≤ A) → (∀ b ∈ y, b.natAbs ≤ B) → (dotI x y).natAbs ≤ x.length * (A * B)
  | [], _, _, _ => Nat.zero_le _
  | a :: x, [], _, _ => Nat.zero_le _
  | a :: x, b :: y, hx, hy => by
    have ih := dot_le (x := x) (y := y) (fun c hc => hx c (List.mem_cons_of_mem _ hc)) (fun c hc => hy c (List.mem_cons_of_mem _ hc))
    show (a * b + dotI x y).natAbs ≤ (x.length + 1) * (A * B)
    have h1 := Int.natAbs_add_le (a * b) (dotI x y)
    have h2 : (a * b).natAbs ≤ A * B := by
      rw [Int.natAbs_mul]
      exact Nat.mul_le_mul (hx a (List.mem_cons_self ..)) (hy b (List.mem_cons_self ..))
    rw [Nat.add_mul, Nat.one_mul]
    omega
theorem mul_cost {X W : List (List Int)} {n k : Nat} (hX : ∀ r ∈ X, ∀ x ∈ r, x.natAbs ≤ 4) (lX : ∀ r ∈ X, r.length = k) (hk : k ≤ 4) (hW : ∀ r ∈ W, ∀ x ∈ r, x.natAbs ≤ 81) : ∀ r ∈ mulM X W n, Cost 12 r := fun r hr z hz => by
  obtain ⟨x, hx, rfl⟩ := List.mem_map.mp hr
  obtain ⟨c, hc, rfl⟩ := List.mem_map.mp hz
  have h := dot_le (hX x hx) (y := c) (B := 81) fun b hb => by
    rcases tr_mem hc b hb with rfl | ⟨q, hq, hbq⟩
    · decide
    · exact hW q hq b hbq
  have h2 : x.length * (4 * 81) ≤ 4 * (4 * 81) := Nat.mul_le_mul_right _ (by rw [lX x hx]; exact hk)
  show 2 * (dotI x c).natAbs < 2 ^ 12
  omega
def M4 (K : PySem.W.Frag) : L2.St → Hp → Prop := fun σ H => ∃ (s0 : Option V) (p : Addr) (wv : V) (n k : Nat) (W : List (List Int)),
  σ = [s0, some (.ref p), some (.int (n : Int)), some (.int (k : Int)), some wv, none, none, none, none, none, none, none] ∧ F8 K H p wv n k W
theorem ch4 (T : Top K mg) (hN : base.NoSeer) (hT : P.given.tree = none) {cdv : Value} {A : Around} {outer : List Env} {s : Shared} {H0 : Hp} {E : XK} (hr : Room 46 (A.deeper (envOfC "law" (defScope s_law) s.heap.objs.size T.a_law cdv))) :
    PSs (XL P w base T cdv A outer s H0 E) ((defBody s_law).drop 4) (tK (M4 K)) := by
  refine pss_wk ((pss_cons (ps_if (pt_cmpR op_notBl (pe_mt0 (met_Grid_is_primitive T hN hT) hr (by decide) (pe_mk (mak_Grid T hN hT) hr (by decide) (by rfl) (pa_cons (pe_slice (slTK K rfl) (pv 4) po_none (po_some (pv 3))) (pa_cons (pv 2) pa_nil)))) pe_bl (nomark _))
      (pss_one (ps_ret pe_bl))
      pss_nil)
      (pss_cons (ps_set (i := 5) sc_law.nd rfl (by first | exact .inl rfl | exact .inr rfl) (pe_c (cal_law_rows T hN hT) hr (by decide) (by rfl) (pa_cons (pv 1) (pa_cons (pv 3) (pa_cons (pv 3) (pa_cons pe_int pa_nil))))))
      (pss_cons (ps_set (i := 6) sc_law.nd rfl (by first | exact .inl rfl | exact .inr rfl) (pe_mt0 (met_Grid_is_primitive T hN hT) hr (by decide) (pe_mk (mak_Grid T hN hT) hr (by decide) (by rfl) (pa_cons (pe_c (cal_law_product T hN hT) hr (by decide) (by rfl) (pa_cons (pv 5) (pa_cons (pe_slice (slTK K rfl) (pv 4) po_none (po_some (pv 3))) (pa_cons (pv 2) pa_nil)))) (pa_cons (pv 2) pa_nil)))))
      (pss_cons (ps_if (PW.pt (pw_or (pt_cmpR op_ne (pv 6) (pe_cmpR op_eq (pe_callB (call_abs) (by rfl) T.z_abs (by decide +kernel) (pa_cons (pe_c (cal_law_determinant T hN hT) hr (by decide) (by rfl) (pa_cons (pv 5) pa_nil)) pa_nil)) pe_int (nomark _)) (nomark _)) (pw_or1 (pt_not (pt_val (pe_callB (isiK K rfl) (by rfl) T.z_isinstance (by decide +kernel) (pa_cons (pv 6) (pa_cons (pe_bltn (v := .ty "bool") (by rfl) T.z_bool (by decide +kernel) rfl) pa_nil))))))))
      (pss_one (ps_ret pe_bl))
      pss_nil)
      (ch8 T hN hT hr)))))) ?_
  rintro D σ H ⟨⟨s0, p, wv, n, k, W, rfl, f⟩, q⟩
  have n0 := f.n0
  have n4 := f.n4
  have kn := f.kn
  have lW := f.uni.sz.len
  have rW : ∀ r ∈ W.take k, r.length = n := fun r hr => f.uni.sz.row r (List.mem_of_mem_take hr)
  have lWk : (W.take k).length = k := by rw [List.length_take]; omega
  have w81 : ∀ r ∈ W.take k, ∀ x ∈ r, x.natAbs ≤ 81 := fun r hr x hx => by
    have h1 := l1_at hx
    have h2 := f.uni.l1 r (List.mem_of_mem_take hr)
    omega
  have hFull := full_take n4 f.uni.sz f.uni.det kn
  obtain ⟨aw, ww, rfl, haw, hpw⟩ := id f.hw
  refine ⟨_, rfl, _, rfl, (k : Int), rfl, ?_⟩
  refine slA_take haw k fun t1 H1 s1 ht1 => ?_
  have hWk : TRows K H1 (.ref t1) (W.take k) := ⟨t1, _, rfl, ht1, paired_take k (L2.Paired.mapP hpw fun _ _ => TRow.same s1)⟩
  refine ⟨_, rfl, ?_⟩
  intro x xd nx nd ne
  refine make_grid2 nx nd (irows_t hWk) (by omega) (by omega) rW fun H2 s2 G2 => ⟨rfl, ?_⟩
  obtain ⟨⟨_, d2, t2, e2, ho2, ht2⟩, _⟩ := id G2
  cases e2
  refine ⟨x, d2, _, rfl, ho2, m_is_primitive _ _, .ref x, _, n, rfl, G2, by omega, n4, fun r hr => uni_cost f.uni r (List.mem_of_mem_take hr), fun TT H3 s3 R => ?_⟩
  rw [lWk] at R
  rw [lWk, decide_eq_true ((prim_iff R).mpr hFull)]
  refine ⟨true, true, rfl, rfl, _, rfl, ?_⟩
  refine iteF ?_
  have s13 := s1.trans (s2.trans s3)
  have f3 := f.same s13
  -- mixed
  refine ⟨_, rfl, _, rfl, _, rfl, p, k, k, 2, rfl, f3.st, by omega, by omega, by decide, fun mv X H4 o4 st4 hX lX rX bX => ?_⟩
  have f4 := f3.off o4 st4
  obtain ⟨_, ww4, e4, haw4, hpw4⟩ := id f4.hw
  cases e4
  have X4 : ∀ r ∈ X, ∀ x ∈ r, x.natAbs ≤ 4 := bX
  refine ⟨_, rfl, _, rfl, _, rfl, (k : Int), rfl, ?_⟩
  refine slA_take haw4 k fun t5 H5 s5 ht5 => ?_
  have hWk5 : TRows K H5 (.ref t5) (W.take k) := ⟨t5, _, rfl, ht5, paired_take k (L2.Paired.mapP hpw4 fun _ _ => TRow.same s5)⟩
  have hX5 := TRows.same s5 hX
  refine ⟨_, rfl, mv, .ref t5, X, W.take k, n, 8, 8, rfl, hX5, hWk5, by omega, by omega, by omega, fun r hr => by rw [rX r hr, lWk], rW, fun r hr z hz => by have := X4 r hr z hz; omega, fun r hr z hz => by have := w81 r hr z hz; omega, by decide, fun gv H6 s6 hg => ?_⟩
  refine ⟨_, rfl, ?_⟩
  intro y yd ny nyd ney
  have lm : (mulM X (W.take k) n).length = k := by rw [mulM_len, lX]
  refine make_grid2 ny nyd (irows_t hg) (by omega) (by omega) mulM_row fun H7 s7 G7 => ⟨rfl, ?_⟩
  obtain ⟨⟨_, d7, t7, e7, ho7, ht7⟩, _⟩ := id G7
  cases e7
  refine ⟨y, d7, _, rfl, ho7, m_is_primitive _ _, .ref y, _, n, rfl, G7, by omega, n4, mul_cost X4 rX (by omega) w81, fun TT2 H8 s8 R2 => ?_⟩
  rw [lm] at R2
  rw [lm, prim_dec R2 (full_mul n4 hFull lWk rW (by omega) ⟨lX, rX⟩)]
  have s58 := s5.trans (s6.trans (s7.trans s8))
  have f8 := f4.same s58
  obtain ⟨am, wm, rfl, ham, hpm⟩ := TRows.same s58 hX
  refine ⟨_, rfl, _, rfl, k, by omega, .ref am, X, 8, rfl, ⟨am, wm, rfl, .inr ham, hpm⟩, ⟨lX, rX, fun r hr z hz => by have := X4 r hr z hz; omega⟩, by decide, fun H9 s9 => ⟨_, rfl, rfl, ?_⟩⟩
  have eabs : decide (V.int (if detL k X < 0 then -detL k X else detL k X) = V.int 1) = decide ((detL k X).natAbs = 1) := by
    by_cases h : (detL k X).natAbs = 1
    · rw [decide_eq_true h]
      refine decide_eq_true (congrArg V.int ?_)
      split <;> omega
    · rw [decide_eq_false h]
      refine decide_eq_false fun z => h ?_
      have := V.int.inj z
      split at this <;> omega
  refine ⟨rfl, _, rfl, ?_⟩
  rw [show (!decide (V.bl (decide ((detL k X).natAbs = 1)) = V.bl (decide (V.int (if detL k X < 0 then -detL k X else detL k X) = V.int 1)))) = false by rw [eabs, decide_eq_true rfl]; rfl]
  refine iteF ?_
  refine ⟨_, rfl, .bl (decide ((detL k X).natAbs = 1)), .ty "bool", _, _, true, rfl, .ty "bool", .base (.bl _), kit_ty (by decide +kernel), true, rfl, ?_⟩
  refine iteF ?_
  exact ⟨⟨s0, _, _, p, .ref aw, n, k, W, rfl, f8.same s9⟩, q⟩
theorem ok_law (T : Top K mg) (hN : base.NoSeer) (hT : P.given.tree = none) : FnOk P w K mg base CX0 47 T.a_law T.d_law ["script"] (sp_law K) := by
  refine T.F_law.ok sc_law (fun vs H Q E h => ?_) (fun cdv A outer s H vs Q E hr h => ?_)
  · obtain ⟨a, ns, rfl, _⟩ := h
    rfl
  · obtain ⟨a0, ns, rfl, hsc, hl, hb, q⟩ := h
    refine ⟨_, ((pss_cons (ps_set (i := 1) sc_law.nd rfl (by first | exact .inl rfl | exact .inr rfl) (pe_c (cal_law_state T hN hT) hr (by decide) (by rfl) (pa_cons (pv 0) pa_nil)))
      (pss_cons (ps_set (i := 2) sc_law.nd rfl (by first | exact .inl rfl | exact .inr rfl) (pe_op op_add pe_int (pe_c (cal_law_take T hN hT) hr (by decide) (by rfl) (pa_cons (pv 1) (pa_cons pe_int pa_nil)))))
      (pss_cons (ps_set (i := 3) sc_law.nd rfl (by first | exact .inl rfl | exact .inr rfl) (pe_c (cal_law_take T hN hT) hr (by decide) (by rfl) (pa_cons (pv 1) (pa_cons (pe_op op_add (pv 2) pe_int) pa_nil))))
      (pss_cons (ps_set (i := 4) sc_law.nd rfl (by first | exact .inl rfl | exact .inr rfl) (pe_c (cal_law_unimodular T hN hT) hr (by decide) (by rfl) (pa_cons (pv 1) (pa_cons (pv 2) pa_nil))))
      (ch4 T hN hT hr)))))), ?_⟩
    refine ⟨_, rfl, a0, ns, rfl, hsc, hl, fun p H1 s1 np st1 => ?_⟩
    refine ⟨_, rfl, p, 4, rfl, st1, by decide, by decide, fun r H2 hr2 o2 st2 => ⟨_, _, rfl, rfl, ?_⟩⟩
    obtain ⟨n, hn, hn0, hn4⟩ : ∃ n : Nat, 1 + (r : Int) = (n : Int) ∧ 0 < n ∧ n ≤ 4 := ⟨1 + r, by omega, by omega, by omega⟩
    dsimp only
    rw [hn]
    refine ⟨_, rfl, _, rfl, _, _, rfl, rfl, p, n + 1, rfl, st2, by omega, by omega, fun k H3 hk o3 st3 => ?_⟩
    refine ⟨_, rfl, _, rfl, p, n, rfl, st3, hn4, fun wv W H4 o4 st4 hW U => ?_⟩
    exact ⟨⟨some (.ref a0), p, wv, n, k, W, rfl, ⟨st4, hW, U, hn0, hn4, by omega⟩⟩, q⟩

end
end K06
namespace K06
open PySem PySem.Spec PyProof.Rows L2 Gm
theorem all_mk {l : PySem.W.OpenLaw} {w : World} {K : PySem.W.Frag} {h : Heap} {mg : Str → Option Value} {fa C_Grid X_Malformed f1 f2 f3 f4 f5 f6 f7 f8 f9 f10 f11 f12 f13 f14 f15 f16 f17 f18 f19 f20 f21 f22 f23 f24 f25 f26 : Addr} (X : K.In h) (G : h.Ns mainGlobals mg) (hfa : mg "law" = some (.ref fa)) (hT : l.prog.given.tree = none)
    {od1 an1 od2 an2 od3 an3 od4 an4 od5 an5 od6 an6 od7 an7 od8 an8 od9 an9 od10 an10 od11 an11 od12 an12 od13 an13 od14 an14 od15 an15 od16 an16 od17 an17 od18 an18 od19 an19 od20 an20 od21 an21 od22 an22 od23 an23 od24 an24 od25 an25 od26 an26 : Option Addr} {sl1 sl2 sl3 sl4 sl5 sl6 sl7 sl8 sl9 sl10 sl11 sl12 sl13 sl14 sl15 sl16 sl17 sl18 sl19 sl20 sl21 sl22 sl23 sl24 sl25 sl26 : Array (Option Value)} {oc1 kV1 dc1 pm1 cd1 ct1 oc2 kV2 dc2 pm2 cd2 ct2 oc3 kV3 dc3 pm3 cd3 ct3 oc4 kV4 dc4 pm4 cd4 ct4 oc5 kV5 dc5 pm5 cd5 ct5 oc6 kV6 dc6 pm6 cd6 ct6 oc7 kV7 dc7 pm7 cd7 ct7 oc8 kV8 dc8 pm8 cd8 ct8 oc9 kV9 dc9 pm9 cd9 ct9 oc10 kV10 dc10 pm10 cd10 ct10 oc11 kV11 dc11 pm11 cd11 ct11 oc12 kV12 dc12 pm12 cd12 ct12 oc13 kV13 dc13 pm13 cd13 ct13 oc14 kV14 dc14 pm14 cd14 ct14 oc15 kV15 dc15 pm15 cd15 ct15 oc16 kV16 dc16 pm16 cd16 ct16 oc17 kV17 dc17 pm17 cd17 ct17 oc18 kV18 dc18 pm18 cd18 ct18 oc19 kV19 dc19 pm19 cd19 ct19 oc20 kV20 dc20 pm20 cd20 ct20 oc21 kV21 dc21 pm21 cd21 ct21 oc22 kV22 dc22 pm22 cd22 ct22 oc23 kV23 dc23 pm23 cd23 ct23 oc24 kV24 dc24 pm24 cd24 ct24 oc25 kV25 dc25 pm25 cd25 ct25 oc26 kV26 dc26 pm26 cd26 ct26 : Value}
    {t9 : Addr} {tc9 : Value} {td9 : Option Addr} {tn9 : Nat} {ts9 : Array (Option Value)}
    (A1 : PySem.W.nsIn K mainGlobals "is_integer" = some (some (.ref f1)))
    (L1 : K.lookup f1 = some ⟨oc1, od1, .func (PySem.W.fnOf "is_integer" "is_integer" (defArgs s_is_integer) (defBody s_is_integer) (defScope s_is_integer) .none kV1 dc1 pm1 an1 cd1 ct1), sl1⟩)
    (D1 : PySem.W.codeIn K cd1 "is_integer" = true)
    (K1 : PySem.W.keepIn K (.ref f1) = true)
    (A2 : PySem.W.nsIn K mainGlobals "cofactors" = some (some (.ref f2)))
    (L2 : K.lookup f2 = some ⟨oc2, od2, .func (PySem.W.fnOf "cofactors" "cofactors" (defArgs s_cofactors) (defBody s_cofactors) (defScope s_cofactors) .none kV2 dc2 pm2 an2 cd2 ct2), sl2⟩)
    (D2 : PySem.W.codeIn K cd2 "cofactors" = true)
    (K2 : PySem.W.keepIn K (.ref f2) = true)
    (A3 : PySem.W.nsIn K mainGlobals "hermite_rows" = some (some (.ref f3)))
    (L3 : K.lookup f3 = some ⟨oc3, od3, .func (PySem.W.fnOf "hermite_rows" "hermite_rows" (defArgs s_hermite_rows) (defBody s_hermite_rows) (defScope s_hermite_rows) .none kV3 dc3 pm3 an3 cd3 ct3), sl3⟩)
    (D3 : PySem.W.codeIn K cd3 "hermite_rows" = true)
    (K3 : PySem.W.keepIn K (.ref f3) = true)
    (A4 : PySem.W.nsIn K mainGlobals "with_row" = some (some (.ref f4)))
    (L4 : K.lookup f4 = some ⟨oc4, od4, .func (PySem.W.fnOf "with_row" "with_row" (defArgs s_with_row) (defBody s_with_row) (defScope s_with_row) .none kV4 dc4 pm4 an4 cd4 ct4), sl4⟩)
    (D4 : PySem.W.codeIn K cd4 "with_row" = true)
    (K4 : PySem.W.keepIn K (.ref f4) = true)
    (A5 : PySem.W.nsIn K mainGlobals "merged" = some (some (.ref f5)))
    (L5 : K.lookup f5 = some ⟨oc5, od5, .func (PySem.W.fnOf "merged" "merged" (defArgs s_merged) (defBody s_merged) (defScope s_merged) .none kV5 dc5 pm5 an5 cd5 ct5), sl5⟩)
    (D5 : PySem.W.codeIn K cd5 "merged" = true)
    (K5 : PySem.W.keepIn K (.ref f5) = true)
    (A6 : PySem.W.nsIn K mainGlobals "mixed" = some (some (.ref f6)))
    (L6 : K.lookup f6 = some ⟨oc6, od6, .func (PySem.W.fnOf "mixed" "mixed" (defArgs s_mixed) (defBody s_mixed) (defScope s_mixed) .none kV6 dc6 pm6 an6 cd6 ct6), sl6⟩)
    (D6 : PySem.W.codeIn K cd6 "mixed" = true)
    (K6 : PySem.W.keepIn K (.ref f6) = true)
    (A7 : PySem.W.nsIn K mainGlobals "tidied" = some (some (.ref f7)))
    (L7 : K.lookup f7 = some ⟨oc7, od7, .func (PySem.W.fnOf "tidied" "tidied" (defArgs s_tidied) (defBody s_tidied) (defScope s_tidied) .none kV7 dc7 pm7 an7 cd7 ct7), sl7⟩)
    (D7 : PySem.W.codeIn K cd7 "tidied" = true)
    (K7 : PySem.W.keepIn K (.ref f7) = true)
    (A8 : PySem.W.nsIn K mainGlobals "reduced" = some (some (.ref f8)))
    (L8 : K.lookup f8 = some ⟨oc8, od8, .func (PySem.W.fnOf "reduced" "reduced" (defArgs s_reduced) (defBody s_reduced) (defScope s_reduced) .none kV8 dc8 pm8 an8 cd8 ct8), sl8⟩)
    (D8 : PySem.W.codeIn K cd8 "reduced" = true)
    (K8 : PySem.W.keepIn K (.ref f8) = true)
    (A9 : PySem.W.findIn K (.ref C_Grid) "__init__" = some (some (.ref f9)))
    (I9 : PySem.W.isFn K (.ref f9) = true)
    (L9 : K.lookup f9 = some ⟨oc9, od9, .func (PySem.W.fnOf "__init__" "Grid.__init__" (defArgs s_Grid_init) (defBody s_Grid_init) (defScope s_Grid_init) (.ref t9) kV9 dc9 pm9 an9 cd9 ct9), sl9⟩)
    (T9 : K.lookup t9 = some ⟨tc9, td9, .seq [Value.none].toArray tn9, ts9⟩)
    (D9 : PySem.W.codeIn K cd9 "Grid.__init__" = true)
    (K9 : PySem.W.keepIn K (.ref f9) = true)
    (A10 : PySem.W.findIn K (.ref C_Grid) "transposed" = some (some (.ref f10)))
    (I10 : PySem.W.isFn K (.ref f10) = true)
    (L10 : K.lookup f10 = some ⟨oc10, od10, .func (PySem.W.fnOf "transposed" "Grid.transposed" (defArgs s_Grid_transposed) (defBody s_Grid_transposed) (defScope s_Grid_transposed) .none kV10 dc10 pm10 an10 cd10 ct10), sl10⟩)
    (D10 : PySem.W.codeIn K cd10 "Grid.transposed" = true)
    (K10 : PySem.W.keepIn K (.ref f10) = true)
    (A11 : PySem.W.findIn K (.ref C_Grid) "is_primitive" = some (some (.ref f11)))
    (I11 : PySem.W.isFn K (.ref f11) = true)
    (L11 : K.lookup f11 = some ⟨oc11, od11, .func (PySem.W.fnOf "is_primitive" "Grid.is_primitive" (defArgs s_Grid_is_primitive) (defBody s_Grid_is_primitive) (defScope s_Grid_is_primitive) .none kV11 dc11 pm11 an11 cd11 ct11), sl11⟩)
    (D11 : PySem.W.codeIn K cd11 "Grid.is_primitive" = true)
    (K11 : PySem.W.keepIn K (.ref f11) = true)
    (A12 : PySem.W.nsIn K mainGlobals "checked_rows" = some (some (.ref f12)))
    (L12 : K.lookup f12 = some ⟨oc12, od12, .func (PySem.W.fnOf "checked_rows" "checked_rows" (defArgs s_checked_rows) (defBody s_checked_rows) (defScope s_checked_rows) .none kV12 dc12 pm12 an12 cd12 ct12), sl12⟩)
    (D12 : PySem.W.codeIn K cd12 "checked_rows" = true)
    (K12 : PySem.W.keepIn K (.ref f12) = true)
    (A13 : PySem.W.nsIn K mainGlobals "checked_width" = some (some (.ref f13)))
    (L13 : K.lookup f13 = some ⟨oc13, od13, .func (PySem.W.fnOf "checked_width" "checked_width" (defArgs s_checked_width) (defBody s_checked_width) (defScope s_checked_width) .none kV13 dc13 pm13 an13 cd13 ct13), sl13⟩)
    (D13 : PySem.W.codeIn K cd13 "checked_width" = true)
    (K13 : PySem.W.keepIn K (.ref f13) = true)
    (A14 : PySem.W.nsIn K mainGlobals "unit" = some (some (.ref f14)))
    (L14 : K.lookup f14 = some ⟨oc14, od14, .func (PySem.W.fnOf "unit" "unit" (defArgs s_unit) (defBody s_unit) (defScope s_unit) .none kV14 dc14 pm14 an14 cd14 ct14), sl14⟩)
    (D14 : PySem.W.codeIn K cd14 "unit" = true)
    (K14 : PySem.W.keepIn K (.ref f14) = true)
    (A15 : PySem.W.nsIn K mainGlobals "diagonal" = some (some (.ref f15)))
    (L15 : K.lookup f15 = some ⟨oc15, od15, .func (PySem.W.fnOf "diagonal" "diagonal" (defArgs s_diagonal) (defBody s_diagonal) (defScope s_diagonal) .none kV15 dc15 pm15 an15 cd15 ct15), sl15⟩)
    (D15 : PySem.W.codeIn K cd15 "diagonal" = true)
    (K15 : PySem.W.keepIn K (.ref f15) = true)
    (A16 : PySem.W.nsIn K mainGlobals "_law_state" = some (some (.ref f16)))
    (L16 : K.lookup f16 = some ⟨oc16, od16, .func (PySem.W.fnOf "_law_state" "_law_state" (defArgs s_law_state) (defBody s_law_state) (defScope s_law_state) .none kV16 dc16 pm16 an16 cd16 ct16), sl16⟩)
    (D16 : PySem.W.codeIn K cd16 "_law_state" = true)
    (K16 : PySem.W.keepIn K (.ref f16) = true)
    (A17 : PySem.W.nsIn K mainGlobals "_law_take" = some (some (.ref f17)))
    (L17 : K.lookup f17 = some ⟨oc17, od17, .func (PySem.W.fnOf "_law_take" "_law_take" (defArgs s_law_take) (defBody s_law_take) (defScope s_law_take) .none kV17 dc17 pm17 an17 cd17 ct17), sl17⟩)
    (D17 : PySem.W.codeIn K cd17 "_law_take" = true)
    (K17 : PySem.W.keepIn K (.ref f17) = true)
    (A18 : PySem.W.nsIn K mainGlobals "_law_rows" = some (some (.ref f18)))
    (L18 : K.lookup f18 = some ⟨oc18, od18, .func (PySem.W.fnOf "_law_rows" "_law_rows" (defArgs s_law_rows) (defBody s_law_rows) (defScope s_law_rows) .none kV18 dc18 pm18 an18 cd18 ct18), sl18⟩)
    (D18 : PySem.W.codeIn K cd18 "_law_rows" = true)
    (K18 : PySem.W.keepIn K (.ref f18) = true)
    (A19 : PySem.W.nsIn K mainGlobals "_law_product" = some (some (.ref f19)))
    (L19 : K.lookup f19 = some ⟨oc19, od19, .func (PySem.W.fnOf "_law_product" "_law_product" (defArgs s_law_product) (defBody s_law_product) (defScope s_law_product) .none kV19 dc19 pm19 an19 cd19 ct19), sl19⟩)
    (D19 : PySem.W.codeIn K cd19 "_law_product" = true)
    (K19 : PySem.W.keepIn K (.ref f19) = true)
    (A20 : PySem.W.nsIn K mainGlobals "_law_determinant" = some (some (.ref f20)))
    (L20 : K.lookup f20 = some ⟨oc20, od20, .func (PySem.W.fnOf "_law_determinant" "_law_determinant" (defArgs s_law_determinant) (defBody s_law_determinant) (defScope s_law_determinant) .none kV20 dc20 pm20 an20 cd20 ct20), sl20⟩)
    (D20 : PySem.W.codeIn K cd20 "_law_determinant" = true)
    (K20 : PySem.W.keepIn K (.ref f20) = true)
    (A21 : PySem.W.nsIn K mainGlobals "_law_unit" = some (some (.ref f21)))
    (L21 : K.lookup f21 = some ⟨oc21, od21, .func (PySem.W.fnOf "_law_unit" "_law_unit" (defArgs s_law_unit) (defBody s_law_unit) (defScope s_law_unit) .none kV21 dc21 pm21 an21 cd21 ct21), sl21⟩)
    (D21 : PySem.W.codeIn K cd21 "_law_unit" = true)
    (K21 : PySem.W.keepIn K (.ref f21) = true)
    (A22 : PySem.W.nsIn K mainGlobals "_law_step" = some (some (.ref f22)))
    (L22 : K.lookup f22 = some ⟨oc22, od22, .func (PySem.W.fnOf "_law_step" "_law_step" (defArgs s_law_step) (defBody s_law_step) (defScope s_law_step) .none kV22 dc22 pm22 an22 cd22 ct22), sl22⟩)
    (D22 : PySem.W.codeIn K cd22 "_law_step" = true)
    (K22 : PySem.W.keepIn K (.ref f22) = true)
    (A23 : PySem.W.nsIn K mainGlobals "_law_unimodular" = some (some (.ref f23)))
    (L23 : K.lookup f23 = some ⟨oc23, od23, .func (PySem.W.fnOf "_law_unimodular" "_law_unimodular" (defArgs s_law_unimodular) (defBody s_law_unimodular) (defScope s_law_unimodular) .none kV23 dc23 pm23 an23 cd23 ct23), sl23⟩)
    (D23 : PySem.W.codeIn K cd23 "_law_unimodular" = true)
    (K23 : PySem.W.keepIn K (.ref f23) = true)
    (A24 : PySem.W.nsIn K mainGlobals "_law_gcd" = some (some (.ref f24)))
    (L24 : K.lookup f24 = some ⟨oc24, od24, .func (PySem.W.fnOf "_law_gcd" "_law_gcd" (defArgs s_law_gcd) (defBody s_law_gcd) (defScope s_law_gcd) .none kV24 dc24 pm24 an24 cd24 ct24), sl24⟩)
    (D24 : PySem.W.codeIn K cd24 "_law_gcd" = true)
    (K24 : PySem.W.keepIn K (.ref f24) = true)
    (A25 : PySem.W.nsIn K mainGlobals "_law_choices" = some (some (.ref f25)))
    (L25 : K.lookup f25 = some ⟨oc25, od25, .func (PySem.W.fnOf "_law_choices" "_law_choices" (defArgs s_law_choices) (defBody s_law_choices) (defScope s_law_choices) .none kV25 dc25 pm25 an25 cd25 ct25), sl25⟩)
    (D25 : PySem.W.codeIn K cd25 "_law_choices" = true)
    (K25 : PySem.W.keepIn K (.ref f25) = true)
    (A26 : PySem.W.nsIn K mainGlobals "law" = some (some (.ref f26)))
    (L26 : K.lookup f26 = some ⟨oc26, od26, .func (PySem.W.fnOf "law" "law" (defArgs s_law) (defBody s_law) (defScope s_law) .none kV26 dc26 pm26 an26 cd26 ct26), sl26⟩)
    (D26 : PySem.W.codeIn K cd26 "law" = true)
    (K26 : PySem.W.keepIn K (.ref f26) = true)
    (aC_Grid : PySem.W.nsIn K mainGlobals "Grid" = some (some (.ref C_Grid)))
    (pg_Grid : PySem.W.plainGet K C_Grid Str.empty = true)
    (hd_Grid : PySem.W.hasDictIn K C_Grid = true)
    (po_Grid : PySem.W.plainOver K C_Grid = true)
    (sa_Grid : PySem.W.findIn K (.ref C_Grid) "__setattr__" = some (some (.builtin "object.__setattr__")))
    (mk_Grid : PySem.W.makesIn K C_Grid = true)
    (kc_Grid : PySem.W.keepIn K (.ref C_Grid) = true)
    (nrows_Grid : PySem.W.findIn K (.ref C_Grid) "rows" = some none)
    (nwidth_Grid : PySem.W.findIn K (.ref C_Grid) "width" = some none)
    (sf_Grid : PySem.W.selfFirst K C_Grid = true)
    (yc_Grid : PySem.W.findIn K (.ref C_Grid) "__class__" = some (some (.builtin "object.__class__")))
    (yg_Grid : PySem.W.specialIn K (.builtin "object.__class__") "__get__" = some (some (.builtin "getset_descriptor.__get__")))
    (yt_Grid : PySem.W.takesIn K (.builtin "object.__class__") = some true)
    (ym_Grid : PySem.W.mroIn K C_Grid (.type "object") = some true)
    (yt2_Grid : PySem.W.typeIn K (.ref C_Grid) = some (.type "type"))
    (yi_Grid : PySem.W.isClsIn K C_Grid = true)
    (yn_Grid : PySem.W.findIn K (.ref C_Grid) "__ne__" = some (some (.builtin "object.__ne__")))
    (z_ValueError : PySem.W.nsIn K mainGlobals "ValueError" = some none)
    (z_abs : PySem.W.nsIn K mainGlobals "abs" = some none)
    (z_all : PySem.W.nsIn K mainGlobals "all" = some none)
    (z_bool : PySem.W.nsIn K mainGlobals "bool" = some none)
    (z_dict : PySem.W.nsIn K mainGlobals "dict" = some none)
    (z_int : PySem.W.nsIn K mainGlobals "int" = some none)
    (z_isinstance : PySem.W.nsIn K mainGlobals "isinstance" = some none)
    (z_len : PySem.W.nsIn K mainGlobals "len" = some none)
    (z_list : PySem.W.nsIn K mainGlobals "list" = some none)
    (z_range : PySem.W.nsIn K mainGlobals "range" = some none)
    (z_sorted : PySem.W.nsIn K mainGlobals "sorted" = some none)
    (z_tuple : PySem.W.nsIn K mainGlobals "tuple" = some none)
    (z_zip : PySem.W.nsIn K mainGlobals "zip" = some none)
    (aX_Malformed : PySem.W.nsIn K mainGlobals "Malformed" = some (some (.ref X_Malformed)))
    (xX_Malformed : PySem.W.excIn K X_Malformed [.type "ValueError", .type "Exception", .type "BaseException", .type "object"] "ValueError.__new__" = true)
    (kX_Malformed : PySem.W.keepIn K (.ref X_Malformed) = true)
    (bX_Malformed : PySem.W.subIn K (.ref X_Malformed) (.type "BaseException") = some true)
    (tX_Malformed : PySem.W.typeIn K (.ref X_Malformed) = some (.type "type"))
    (iX_Malformed : PySem.W.isClsIn K X_Malformed = true)
    (sX_Malformed : PySem.W.subIn K (.ref X_Malformed) (.ref X_Malformed) = some true)
    : ∃ fd : FuncData, (∀ (s : Shared) (v : Value), BindsTo s fd ⟨[v], []⟩ [("script", v)]) ∧ ∀ base : Heap, K.In base → base.Ns mainGlobals mg → base.NoSeer → FnOk l.prog w K mg base CX0 47 fa fd ["script"] (sp_law K) := by
  have e := hfa.symm.trans (PySem.W.mg_of X G A26)
  cases e
  have F1 := fun_mk (st := s_is_integer) L1 D1 K1
  have b1 := F1.binds (ps := ["value"]) fun _ _ _ _ _ _ us hl => match us, hl with | [_], _ => rfl
  have F2 := fun_mk (st := s_cofactors) L2 D2 K2
  have b2 := F2.binds (ps := ["a", "b"]) fun _ _ _ _ _ _ us hl => match us, hl with | [_, _], _ => rfl
  have F3 := fun_mk (st := s_hermite_rows) L3 D3 K3
  have b3 := F3.binds (ps := ["rows"]) fun _ _ _ _ _ _ us hl => match us, hl with | [_], _ => rfl
  have F4 := fun_mk (st := s_with_row) L4 D4 K4
  have b4 := F4.binds (ps := ["tops", "row"]) fun _ _ _ _ _ _ us hl => match us, hl with | [_, _], _ => rfl
  have F5 := fun_mk (st := s_merged) L5 D5 K5
  have b5 := F5.binds (ps := ["top", "row", "column"]) fun _ _ _ _ _ _ us hl => match us, hl with | [_, _, _], _ => rfl
  have F6 := fun_mk (st := s_mixed) L6 D6 K6
  have b6 := F6.binds (ps := ["a", "first", "b", "second"]) fun _ _ _ _ _ _ us hl => match us, hl with | [_, _, _, _], _ => rfl
  have F7 := fun_mk (st := s_tidied) L7 D7 K7
  have b7 := F7.binds (ps := ["tops"]) fun _ _ _ _ _ _ us hl => match us, hl with | [_], _ => rfl
  have F8 := fun_mk (st := s_reduced) L8 D8 K8
  have b8 := F8.binds (ps := ["row", "tops"]) fun _ _ _ _ _ _ us hl => match us, hl with | [_, _], _ => rfl
  have F9 : FunD K "__init__" "Grid.__init__" (defArgs s_Grid_init) (defBody s_Grid_init) (defScope s_Grid_init) [.non] [] f9 _ := ⟨⟨oc9, od9, _, kV9, dc9, pm9, an9, cd9, ct9, sl9, rfl, L9, D9, .inr ⟨by simp, t9, _, [.none], tn9, rfl, T9, rfl, .cons rfl .nil⟩, .inl rfl⟩, K9⟩
  obtain ⟨ds9, vd9, b9⟩ := F9.binds1 (ps := ["self", "rows", "width"]) 3 1 (by simp) rfl fun _ _ _ _ _ _ _ us its hl hi => match us, hl, its, hi with | [_, _, _], _, [_], _ => ⟨_, rfl, rfl⟩
  obtain rfl : ds9 = [] := by cases vd9; rfl
  have F10 := fun_mk (st := s_Grid_transposed) L10 D10 K10
  have b10 := F10.binds (ps := ["self"]) fun _ _ _ _ _ _ us hl => match us, hl with | [_], _ => rfl
  have F11 := fun_mk (st := s_Grid_is_primitive) L11 D11 K11
  have b11 := F11.binds (ps := ["self"]) fun _ _ _ _ _ _ us hl => match us, hl with | [_], _ => rfl
  have F12 := fun_mk (st := s_checked_rows) L12 D12 K12
  have b12 := F12.binds (ps := ["rows"]) fun _ _ _ _ _ _ us hl => match us, hl with | [_], _ => rfl
  have F13 := fun_mk (st := s_checked_width) L13 D13 K13
  have b13 := F13.binds (ps := ["rows", "width"]) fun _ _ _ _ _ _ us hl => match us, hl with | [_, _], _ => rfl
  have F14 := fun_mk (st := s_unit) L14 D14 K14
  have b14 := F14.binds (ps := ["n"]) fun _ _ _ _ _ _ us hl => match us, hl with | [_], _ => rfl
  have F15 := fun_mk (st := s_diagonal) L15 D15 K15
  have b15 := F15.binds (ps := ["numbers"]) fun _ _ _ _ _ _ us hl => match us, hl with | [_], _ => rfl
  have F16 := fun_mk (st := s_law_state) L16 D16 K16
  have b16 := F16.binds (ps := ["script"]) fun _ _ _ _ _ _ us hl => match us, hl with | [_], _ => rfl
  have F17 := fun_mk (st := s_law_take) L17 D17 K17
  have b17 := F17.binds (ps := ["state", "m"]) fun _ _ _ _ _ _ us hl => match us, hl with | [_, _], _ => rfl
  have F18 := fun_mk (st := s_law_rows) L18 D18 K18
  have b18 := F18.binds (ps := ["state", "height", "width", "most"]) fun _ _ _ _ _ _ us hl => match us, hl with | [_, _, _, _], _ => rfl
  have F19 := fun_mk (st := s_law_product) L19 D19 K19
  have b19 := F19.binds (ps := ["a", "b", "width"]) fun _ _ _ _ _ _ us hl => match us, hl with | [_, _, _], _ => rfl
  have F20 := fun_mk (st := s_law_determinant) L20 D20 K20
  have b20 := F20.binds (ps := ["rows"]) fun _ _ _ _ _ _ us hl => match us, hl with | [_], _ => rfl
  have F21 := fun_mk (st := s_law_unit) L21 D21 K21
  have b21 := F21.binds (ps := ["n"]) fun _ _ _ _ _ _ us hl => match us, hl with | [_], _ => rfl
  have F22 := fun_mk (st := s_law_step) L22 D22 K22
  have b22 := F22.binds (ps := ["rows", "i", "k", "factor"]) fun _ _ _ _ _ _ us hl => match us, hl with | [_, _, _, _], _ => rfl
  have F23 := fun_mk (st := s_law_unimodular) L23 D23 K23
  have b23 := F23.binds (ps := ["state", "n"]) fun _ _ _ _ _ _ us hl => match us, hl with | [_, _], _ => rfl
  have F24 := fun_mk (st := s_law_gcd) L24 D24 K24
  have b24 := F24.binds (ps := ["a", "b"]) fun _ _ _ _ _ _ us hl => match us, hl with | [_, _], _ => rfl
  have F25 := fun_mk (st := s_law_choices) L25 D25 K25
  have b25 := F25.binds (ps := ["n", "k"]) fun _ _ _ _ _ _ us hl => match us, hl with | [_, _], _ => rfl
  have F26 := fun_mk (st := s_law) L26 D26 K26
  have b26 := F26.binds (ps := ["script"]) fun _ _ _ _ _ _ us hl => match us, hl with | [_], _ => rfl
  let T : Top K mg := { a_is_integer := f1, d_is_integer := _, F_is_integer := F1, b_is_integer := b1, g_is_integer := PySem.W.mg_of X G A1, a_cofactors := f2, d_cofactors := _, F_cofactors := F2, b_cofactors := b2, g_cofactors := PySem.W.mg_of X G A2, a_hermite_rows := f3, d_hermite_rows := _, F_hermite_rows := F3, b_hermite_rows := b3, g_hermite_rows := PySem.W.mg_of X G A3, a_with_row := f4, d_with_row := _, F_with_row := F4, b_with_row := b4, g_with_row := PySem.W.mg_of X G A4, a_merged := f5, d_merged := _, F_merged := F5, b_merged := b5, g_merged := PySem.W.mg_of X G A5, a_mixed := f6, d_mixed := _, F_mixed := F6, b_mixed := b6, g_mixed := PySem.W.mg_of X G A6, a_tidied := f7, d_tidied := _, F_tidied := F7, b_tidied := b7, g_tidied := PySem.W.mg_of X G A7, a_reduced := f8, d_reduced := _, F_reduced := F8, b_reduced := b8, g_reduced := PySem.W.mg_of X G A8, a_Grid_init := f9, d_Grid_init := _, F_Grid_init := F9, b_Grid_init := b9, a_Grid_transposed := f10, d_Grid_transposed := _, F_Grid_transposed := F10, b_Grid_transposed := b10, m_Grid_transposed := ⟨A10, I10, K10⟩, a_Grid_is_primitive := f11, d_Grid_is_primitive := _, F_Grid_is_primitive := F11, b_Grid_is_primitive := b11, m_Grid_is_primitive := ⟨A11, I11, K11⟩, a_checked_rows := f12, d_checked_rows := _, F_checked_rows := F12, b_checked_rows := b12, g_checked_rows := PySem.W.mg_of X G A12, a_checked_width := f13, d_checked_width := _, F_checked_width := F13, b_checked_width := b13, g_checked_width := PySem.W.mg_of X G A13, a_unit := f14, d_unit := _, F_unit := F14, b_unit := b14, g_unit := PySem.W.mg_of X G A14, a_diagonal := f15, d_diagonal := _, F_diagonal := F15, b_diagonal := b15, g_diagonal := PySem.W.mg_of X G A15, a_law_state := f16, d_law_state := _, F_law_state := F16, b_law_state := b16, g_law_state := PySem.W.mg_of X G A16, a_law_take := f17, d_law_take := _, F_law_take := F17, b_law_take := b17, g_law_take := PySem.W.mg_of X G A17, a_law_rows := f18, d_law_rows := _, F_law_rows := F18, b_law_rows := b18, g_law_rows := PySem.W.mg_of X G A18, a_law_product := f19, d_law_product := _, F_law_product := F19, b_law_product := b19, g_law_product := PySem.W.mg_of X G A19, a_law_determinant := f20, d_law_determinant := _, F_law_determinant := F20, b_law_determinant := b20, g_law_determinant := PySem.W.mg_of X G A20, a_law_unit := f21, d_law_unit := _, F_law_unit := F21, b_law_unit := b21, g_law_unit := PySem.W.mg_of X G A21, a_law_step := f22, d_law_step := _, F_law_step := F22, b_law_step := b22, g_law_step := PySem.W.mg_of X G A22, a_law_unimodular := f23, d_law_unimodular := _, F_law_unimodular := F23, b_law_unimodular := b23, g_law_unimodular := PySem.W.mg_of X G A23, a_law_gcd := f24, d_law_gcd := _, F_law_gcd := F24, b_law_gcd := b24, g_law_gcd := PySem.W.mg_of X G A24, a_law_choices := f25, d_law_choices := _, F_law_choices := F25, b_law_choices := b25, g_law_choices := PySem.W.mg_of X G A25, a_law := fa, d_law := _, F_law := F26, b_law := b26, g_law := PySem.W.mg_of X G A26, C_Grid := C_Grid, g_Grid := PySem.W.mg_of X G aC_Grid, cl_Grid := ⟨pg_Grid, hd_Grid, po_Grid, sa_Grid⟩, mk_Grid := ⟨mk_Grid, A9, I9, kc_Grid⟩, n_rows := nrows_Grid, n_width := nwidth_Grid, sf_Grid := sf_Grid, kc_Grid := yc_Grid, kg_Grid := yg_Grid, kt_Grid := yt_Grid, km_Grid := ym_Grid, ty_Grid := yt2_Grid, ic_Grid := yi_Grid, ne_Grid := yn_Grid, z_ValueError := PySem.W.mg_none_of X G z_ValueError, z_abs := PySem.W.mg_none_of X G z_abs, z_all := PySem.W.mg_none_of X G z_all, z_bool := PySem.W.mg_none_of X G z_bool, z_dict := PySem.W.mg_none_of X G z_dict, z_int := PySem.W.mg_none_of X G z_int, z_isinstance := PySem.W.mg_none_of X G z_isinstance, z_len := PySem.W.mg_none_of X G z_len, z_list := PySem.W.mg_none_of X G z_list, z_range := PySem.W.mg_none_of X G z_range, z_sorted := PySem.W.mg_none_of X G z_sorted, z_tuple := PySem.W.mg_none_of X G z_tuple, z_zip := PySem.W.mg_none_of X G z_zip, X_Malformed := X_Malformed, gX_Malformed := PySem.W.mg_of X G aX_Malformed, xX_Malformed := xX_Malformed, kX_Malformed := kX_Malformed, bX_Malformed := bX_Malformed, tX_Malformed := tX_Malformed, iX_Malformed := iX_Malformed, sX_Malformed := sX_Malformed }
  exact ⟨PySem.W.fnOf "law" "law" (defArgs s_law) (defBody s_law) (defScope s_law) .none kV26 dc26 pm26 an26 cd26 ct26, fun s v => .of_eq rfl, fun base _ _ hN => ok_law (w := w) T hN hT⟩
end K06
open PySem PySem.W PyProof.Rows
set_option maxRecDepth 100000 in
set_option maxHeartbeats 16000000 in
theorem PySem.Challenge.cw_gridmetric_k06_primitive_matrices_holds : PySem.Challenge.rw_gridmetric_k06_primitive_matrices.Holds := by
  w_on; o_law; k_head; (case hw => w_witness2)
  k_fill
  refine Gm.walk_ofN (n := 63) (k := 47) (sp := K06.sp_law) (x := "script") rfl (by decide) rfl ⟨rfl, by decide, by decide⟩ (by decide +kernel) (fun w h Y => PySem.W.kIn_of Y) ?F ?S
  case F =>
    intro w mg fa h Y KX G hmg
    refine' K06.all_mk KX G hmg rfl ?A1 ?L1 ?D1 ?K1 ?A2 ?L2 ?D2 ?K2 ?A3 ?L3 ?D3 ?K3 ?A4 ?L4 ?D4 ?K4 ?A5 ?L5 ?D5 ?K5 ?A6 ?L6 ?D6 ?K6 ?A7 ?L7 ?D7 ?K7 ?A8 ?L8 ?D8 ?K8 ?A9 ?I9 ?L9 ?T9 ?D9 ?K9 ?A10 ?I10 ?L10 ?D10 ?K10 ?A11 ?I11 ?L11 ?D11 ?K11 ?A12 ?L12 ?D12 ?K12 ?A13 ?L13 ?D13 ?K13 ?A14 ?L14 ?D14 ?K14 ?A15 ?L15 ?D15 ?K15 ?A16 ?L16 ?D16 ?K16 ?A17 ?L17 ?D17 ?K17 ?A18 ?L18 ?D18 ?K18 ?A19 ?L19 ?D19 ?K19 ?A20 ?L20 ?D20 ?K20 ?A21 ?L21 ?D21 ?K21 ?A22 ?L22 ?D22 ?K22 ?A23 ?L23 ?D23 ?K23 ?A24 ?L24 ?D24 ?K24 ?A25 ?L25 ?D25 ?K25 ?A26 ?L26 ?D26 ?K26 ?aC_Grid ?pg_Grid ?hd_Grid ?po_Grid ?sa_Grid ?mk_Grid ?kc_Grid ?nrows_Grid ?nwidth_Grid ?sf_Grid ?yc_Grid ?yg_Grid ?yt_Grid ?ym_Grid ?yt2_Grid ?yi_Grid ?yn_Grid ?z_ValueError ?z_abs ?z_all ?z_bool ?z_dict ?z_int ?z_isinstance ?z_len ?z_list ?z_range ?z_sorted ?z_tuple ?z_zip ?aX_Malformed ?xX_Malformed ?kX_Malformed ?bX_Malformed ?tX_Malformed ?iX_Malformed ?sX_Malformed
    (case aC_Grid => k_is)
    (case aX_Malformed => k_is)
    (case A1 => k_is)
    (case L1 => k_is)
    (case D1 => k_is)
    (case K1 => k_is)
    (case A2 => k_is)
    (case L2 => k_is)
    (case D2 => k_is)
    (case K2 => k_is)
    (case A3 => k_is)
    (case L3 => k_is)
    (case D3 => k_is)
    (case K3 => k_is)
    (case A4 => k_is)
    (case L4 => k_is)
    (case D4 => k_is)
    (case K4 => k_is)
    (case A5 => k_is)
    (case L5 => k_is)
    (case D5 => k_is)
    (case K5 => k_is)
    (case A6 => k_is)
    (case L6 => k_is)
    (case D6 => k_is)
    (case K6 => k_is)
    (case A7 => k_is)
    (case L7 => k_is)
    (case D7 => k_is)
    (case K7 => k_is)
    (case A8 => k_is)
    (case L8 => k_is)
    (case D8 => k_is)
    (case K8 => k_is)
    (case A9 => k_is)
    (case I9 => k_is)
    (case L9 => k_is)
    (case T9 => k_is)
    (case D9 => k_is)
    (case K9 => k_is)
    (case A10 => k_is)
    (case I10 => k_is)
    (case L10 => k_is)
    (case D10 => k_is)
    (case K10 => k_is)
    (case A11 => k_is)
    (case I11 => k_is)
    (case L11 => k_is)
    (case D11 => k_is)
    (case K11 => k_is)
    (case A12 => k_is)
    (case L12 => k_is)
    (case D12 => k_is)
    (case K12 => k_is)
    (case A13 => k_is)
    (case L13 => k_is)
    (case D13 => k_is)
    (case K13 => k_is)
    (case A14 => k_is)
    (case L14 => k_is)
    (case D14 => k_is)
    (case K14 => k_is)
    (case A15 => k_is)
    (case L15 => k_is)
    (case D15 => k_is)
    (case K15 => k_is)
    (case A16 => k_is)
    (case L16 => k_is)
    (case D16 => k_is)
    (case K16 => k_is)
    (case A17 => k_is)
    (case L17 => k_is)
    (case D17 => k_is)
    (case K17 => k_is)
    (case A18 => k_is)
    (case L18 => k_is)
    (case D18 => k_is)
    (case K18 => k_is)
    (case A19 => k_is)
    (case L19 => k_is)
    (case D19 => k_is)
    (case K19 => k_is)
    (case A20 => k_is)
    (case L20 => k_is)
    (case D20 => k_is)
    (case K20 => k_is)
    (case A21 => k_is)
    (case L21 => k_is)
    (case D21 => k_is)
    (case K21 => k_is)
    (case A22 => k_is)
    (case L22 => k_is)
    (case D22 => k_is)
    (case K22 => k_is)
    (case A23 => k_is)
    (case L23 => k_is)
    (case D23 => k_is)
    (case K23 => k_is)
    (case A24 => k_is)
    (case L24 => k_is)
    (case D24 => k_is)
    (case K24 => k_is)
    (case A25 => k_is)
    (case L25 => k_is)
    (case D25 => k_is)
    (case K25 => k_is)
    (case A26 => k_is)
    (case L26 => k_is)
    (case D26 => k_is)
    (case K26 => k_is)
    (case pg_Grid => k_is)
    (case hd_Grid => k_is)
    (case po_Grid => k_is)
    (case sa_Grid => k_is)
    (case mk_Grid => k_is)
    (case kc_Grid => k_is)
    (case nrows_Grid => k_is)
    (case nwidth_Grid => k_is)
    (case sf_Grid => k_is)
    (case yc_Grid => k_is)
    (case yg_Grid => k_is)
    (case yt_Grid => k_is)
    (case ym_Grid => k_is)
    (case yt2_Grid => k_is)
    (case yi_Grid => k_is)
    (case yn_Grid => k_is)
    (case z_ValueError => k_is)
    (case z_abs => k_is)
    (case z_all => k_is)
    (case z_bool => k_is)
    (case z_dict => k_is)
    (case z_int => k_is)
    (case z_isinstance => k_is)
    (case z_len => k_is)
    (case z_list => k_is)
    (case z_range => k_is)
    (case z_sorted => k_is)
    (case z_tuple => k_is)
    (case z_zip => k_is)
    (case xX_Malformed => k_exc)
    (case kX_Malformed => k_is)
    (case bX_Malformed => k_is)
    (case tX_Malformed => k_is)
    (case iX_Malformed => k_is)
    (case sX_Malformed => first | rfl | k_is)
  case S =>
    intro K H a ns hl hb hs
    exact ⟨a, ns, rfl, hs, hl, hb, fun _ => rfl⟩
