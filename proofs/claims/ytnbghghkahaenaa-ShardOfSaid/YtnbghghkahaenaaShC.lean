/-
  LAYER 14 (shard), THE PROGRAM: Part.
-/
import Derived.Test.YtnbghghkahaenaaShB
namespace Go.Proofs.Ytnbghghkahaenaa
open Go.RowKit Go.Shelf
attribute [local go_sem] Oper.semAt_some
set_option linter.unusedVariables false
set_option maxRecDepth 100000

/-- A call of append at the operation inside a fence, by an equation on its run. -/
theorem wpListIn_append_at {F : Fence} {n : Nat} {P : Program} {w wx w' : World} {ops : Array Oper} {rest : List Oper} {o : Oper} {a : Act} {Q : Exit → Act → World → Prop} {t u ty : TypeId} {v s v' : Value} (hr : (Builtin.append_ #[t, u] ty #[v, s]).run P wx = .ok v' w')
    (hw : w = wx) (hgd : o.guard = none) (sl x : Operand) (ho : o.op = .call { callee := .builtin .append, args := #[sl, x], argTypes := #[t, u] }) (hty : o.type = ty) (hs : a.eval sl = v) (hx : a.eval x = s)
    (h : wpListIn F n P ops Q rest (a.put o.dst v') w') : wpListIn F n P ops Q (o :: rest) a w := by
  subst hw hty
  refine wpListIn_plain hgd fun K hK => ?_
  unfold Oper.wpIn
  refine ⟨?_, ?_⟩
  · simp [Oper.about, ho, resolve, Target.leads, Sem.run_pure]
  · rw [Oper.semAt_plain F _ _ (by rw [ho]; intro c hc'; cases hc')]
    simp [execOp, ho, resolve, invoke, builtin, hs, hx, hr, Result.andThen]
    exact hK _ _ h
theorem partL_snoc (pre : List ByteArray) (x : ByteArray) (n : Int) : partL (pre ++ [x]) n = partL pre n ++ (if inPart n x = true then [x] else []) := by
  unfold partL
  rw [List.filter_append, List.filter_cons, List.filter_nil]
theorem part_pre {pre L : List ByteArray} (h : pre <+: L) (n : Int) : (partL pre n).length ≤ L.length := by
  obtain ⟨q, rfl⟩ := h
  have := part_len pre n
  rw [List.length_append]; omega
theorem RMid.chg {α : Type} {R : RowTy α} {w A C : World} {v : Value} {L : List α} (h : RMid R w A v L) {S : Nat → Prop} (hc : Chg S A C) (hn : ∀ b, v.ownBlock = some b → ¬ S b) (hS : ∀ b, S b → w.heap.size ≤ b) : RMid R w C v L :=
  ⟨h.row.same (fun b e => hc.block b (h.row.lt b e) (hn b e)), h.new, h.below.trans (hc.below h.below.size hS)⟩
/-- Part between two rounds. -/
structure PaI (w : World) (n : Int) (F : Nat → Prop) (pre : List ByteArray) (W : World) (a : Option Addr) (m c : Nat) : Prop where
  hF : F = (fun b => b = w.heap.size + 1 ∨ (Value.slice a m c).ownBlock = some b)
  og : own W (w.heap.size + 1) #[.slice a m c] 27
  oh : own W w.heap.size #[.int .i64 n] 3
  row : RMid strTy w W (.slice a m c) (partL pre n)
  len : m = (partL pre n).length
  ng : (Value.slice a m c).ownBlock ≠ some (w.heap.size + 1)
  nh : (Value.slice a m c).ownBlock ≠ some w.heap.size
def PaJ (w : World) (n : Int) (F : Nat → Prop) (pre : List ByteArray) (W : World) : Prop := ∃ a m c, PaI w n F pre W a m c
theorem paJ_abide (w : World) (n : Int) (B : Nat) (hB : w.heap.size + 2 ≤ B) : Abide B (PaJ w n) := by
  rintro F pre A C ⟨a, m, c, h⟩ hc
  have hF := h.hF
  refine ⟨a, m, c, hF, h.og.chg hc (fun e => by omega), h.oh.chg hc (fun e => by omega), h.row.chg hc (fun b e k => k.2 (by rw [hF]; exact .inr e)) (fun b e => by omega), h.len, h.ng, h.nh⟩
theorem paJ_lt {w : World} {n : Int} {F : Nat → Prop} {pre : List ByteArray} {W : World} (h : PaJ w n F pre W) : ∀ x, F x → x < W.heap.size := by
  obtain ⟨a, m, c, h⟩ := h
  rw [h.hF]
  rintro x (e | e)
  · rw [e]; exact h.og.lt
  · exact h.row.row.lt x e
/-- One put behind. -/
theorem paI_push {w W : World} {n : Int} {F : Nat → Prop} {pre : List ByteArray} {a : Option Addr} {m c : Nat} (h : PaI w n F pre W a m c) (x : ByteArray) (hx : partL (pre ++ [x]) n = partL pre n ++ [x]) (hl : (partL pre n).length ≤ 1000000) :
    ∃ a5 c5 w5, (Builtin.append_ #[27, 27] 27 #[.slice a m c, .slice (some ⟨W.heap.size, 0, none⟩) 1 1]).run Try.prog (W.alloc (.cells #[.string x] 9)) = .ok (.slice a5 (m + 1) c5) w5 ∧ own w5 (w.heap.size + 1) #[.slice a m c] 27 ∧
      (∃ F', PaJ w n F' (pre ++ [x]) (w5.setCell ⟨w.heap.size + 1, 0, none⟩ (.slice a5 (m + 1) c5)) ∧ ∀ b, F' b → F b ∨ W.heap.size ≤ b) ∧ Chg F W (w5.setCell ⟨w.heap.size + 1, 0, none⟩ (.slice a5 (m + 1) c5)) := by
  have hb : Below W.heap.size W (W.alloc (.cells #[.string x] 9)) := (Below.refl _ _).alloc (Nat.le_refl _) _
  have hgl := h.og.lt
  have hhl := h.oh.lt
  have hrl := h.row.row.lt
  obtain ⟨a5, c5, w5, hr, hown, hg, hat⟩ := run_app strTy_ok (W.alloc (.cells #[.string x] 9)) 27 (.slice a m c) _ (partL pre n) [x] (h.row.row.below hb) (rAt_box strTy_ok (own.new W _ _) rfl) (by simp; omega)
  have hml : (partL pre n).length + [x].length = m + 1 := by rw [h.len]; rfl
  rw [hml] at hr hown hat
  have hc1 : Chg (fun b => (Value.slice a m c).ownBlock = some b) W w5 := (Chg.of_below hb).trans (Chg.of_grown hg) (fun b e => .inl e)
  have e1 : (W.alloc (.cells #[.string x] 9)).heap.size = W.heap.size + 1 := by simp
  rw [e1] at hat
  have g5 := h.og.chg hc1 h.ng
  have h5 := h.oh.chg hc1 h.nh
  have hc2 := Chg.setCell w5 ⟨w.heap.size + 1, 0, none⟩ (.slice a5 (m + 1) c5)
  have hnew : ∀ b, (Value.slice a5 (m + 1) c5).ownBlock = some b → (Value.slice a m c).ownBlock = some b ∨ b = W.heap.size + 1 := fun b e => by
    rcases hat with k | k
    · rw [k] at e; exact .inl e
    · rw [k] at e; cases e; exact .inr rfl
  have hng : (Value.slice a5 (m + 1) c5).ownBlock ≠ some (w.heap.size + 1) := fun e => by
    rcases hnew _ e with k | k
    · exact h.ng k
    · omega
  have hnh : (Value.slice a5 (m + 1) c5).ownBlock ≠ some w.heap.size := fun e => by
    rcases hnew _ e with k | k
    · exact h.nh k
    · omega
  have hcw : Chg F W (w5.setCell ⟨w.heap.size + 1, 0, none⟩ (.slice a5 (m + 1) c5)) := (hc1.mono (fun b e => by rw [h.hF]; exact .inr e)).trans hc2 (fun b e => .inl (by rw [h.hF]; exact .inl e))
  have hg2 := g5.set 0 (.slice a5 (m + 1) c5)
  refine ⟨a5, c5, w5, hr, g5, ⟨_, ⟨a5, m + 1, c5, rfl, hg2, h5.chg hc2 (fun e => by have e2 : w.heap.size = w.heap.size + 1 := e; omega), ?_, by rw [hx, List.length_append, ← h.len]; rfl, hng, hnh⟩, ?_⟩, hcw⟩
  · rw [hx]
    have hnw : ∀ b, (Value.slice a5 (m + 1) c5).ownBlock = some b → w.heap.size ≤ b := fun b e => by
      rcases hnew b e with k | k
      · exact h.row.new b k
      · have := h.row.below.size; omega
    have hbw : Below w.heap.size w w5 := h.row.below.trans (hc1.below h.row.below.size (fun b e => h.row.new b e))
    exact RMid.chg ⟨hown, hnw, hbw⟩ hc2 (fun b e k => by rw [k] at e; exact hng e) (fun b e => by rw [e]; exact Nat.le_succ _)
  · rintro b (e | e)
    · exact .inl (by rw [h.hF]; exact .inl e)
    · rcases hnew b e with k | k
      · exact .inl (by rw [h.hF]; exact .inr k)
      · exact .inr (by omega)
set_option maxHeartbeats 8000000 in
theorem shPart_any {w : World} {v : Value} {L : List ByteArray} (n : Int) (hv : RAt strTy w v L) (hl : L.length ≤ 100000) (hs : ∀ s ∈ L, s.size ≤ 1000000000) :
    Calls Try.prog 17 #[v, .int .i64 n] w (StrPost14 w (partL L n)) := by
  refine (callsIn_wide (n := 9)).1 ?_
  refine callsIn_of_wp_marks Try.func17 rfl trivial ?_ rfl
  simp only [Try.ntmps17, List.size_toArray, List.length_cons, List.length_nil, Nat.reduceAdd, Nat.reduceSub, Array.replicate_succ, Array.replicate_zero, List.push_toArray, List.append_toArray, List.nil_append, List.cons_append]
  obtain ⟨ao, cap, rfl, -⟩ := strs_at hv
  have hFr := hid (fun wx => placed_any ao L.length cap wx)
  gi_wp2_with (refine ⟨trivial, ?_⟩; gi_at_call 20; with_reducible refine (callsIn_wide.2 (hFr.out _)).mono ?_; rintro e w5 ⟨rfl, rfl⟩)
  obtain ⟨W1, hW1⟩ : ∃ W1, w.alloc (.cells #[.int .i64 n] 3) = W1 := ⟨_, rfl⟩
  obtain ⟨W2, hW2⟩ : ∃ W2, W1.alloc (.cells #[.slice none 0 0] 27) = W2 := ⟨_, rfl⟩
  obtain ⟨W3, hW3⟩ : ∃ W3, W2.alloc (.cells #[.slice ao L.length cap] 27) = W3 := ⟨_, rfl⟩
  rw [hW1, hW2, hW3]
  have z1 : W1.heap.size = w.heap.size + 1 := by rw [← hW1]; simp
  have z2 : W2.heap.size = w.heap.size + 1 + 1 := by rw [← hW2]; simp [z1]
  have z3 : W3.heap.size = w.heap.size + 1 + 1 + 1 := by rw [← hW3]; simp [z2]
  have b1 : Below w.heap.size w W1 := by rw [← hW1]; exact (Below.refl _ _).alloc (Nat.le_refl _) _
  have b2 : Below W1.heap.size W1 W2 := by rw [← hW2]; exact (Below.refl _ _).alloc (Nat.le_refl _) _
  have b3 : Below W2.heap.size W2 W3 := by rw [← hW3]; exact (Below.refl _ _).alloc (Nat.le_refl _) _
  have o1 : own W1 w.heap.size #[.int .i64 n] 3 := by rw [← hW1]; exact own.new _ _ _
  have o2 : own W2 (w.heap.size + 1) #[.slice none 0 0] 27 := by rw [← hW2, ← z1]; exact own.new _ _ _
  have o3 : own W3 (w.heap.size + 1 + 1) #[.slice ao L.length cap] 27 := by rw [← hW3, ← z2]; exact own.new _ _ _
  have o1' : own W3 w.heap.size #[.int .i64 n] 3 := (o1.same (b2.block _ o1.lt)).same (b3.block _ (by omega))
  have o2' : own W3 (w.heap.size + 1) #[.slice none 0 0] 27 := o2.same (b3.block _ o2.lt)
  have b23 : Below w.heap.size w W3 := (b1.trans (b2.mono (by omega))).trans (b3.mono (by omega))
  have hI0 : PaJ w n (fun b => b = w.heap.size + 1 ∨ (Value.slice none 0 0).ownBlock = some b) [] W3 := ⟨none, 0, 0, rfl, o2', o1', (rMid_nil w).later b23, by simp [partL], by simp [Value.ownBlock], by simp [Value.ownBlock]⟩
  have hvlt : ∀ b, (Value.slice ao L.length cap).ownBlock = some b → L ≠ [] → b < w.heap.size := fun b e hne => by
    obtain ⟨a', c', e', _, _, _, h4⟩ := hv
    cases e'
    obtain ⟨sb, so, e2, h5, _⟩ := h4 hne
    rw [e2] at e; cases e; exact h5
  have hseq := placed_seq (w.heap.size + 1 + 1) (.slice ao L.length cap) L hl hs W3 o3 (hv.below b23)
  clear hW1 hW2 hW3
  refine wpIn_rangeT (gf := 21) (lb := #[.pointer (some ⟨w.heap.size + 1 + 1, 0, none⟩)]) rfl (enters_of Try.func21 (by kernel_rfl) rfl)
      hseq (Below.refl _ _) (fun x e => by
        rcases e with e | ⟨e1, e2⟩
        · omega
        · have := hvlt x e2 e1; omega) (fun _ => rfl)
      (PaJ w n) (fun _ _ _ => False)
      (paJ_abide w n W3.heap.size (by omega)) (fun _ _ _ _ h _ => h) (fun F s A h => paJ_lt h) (fun F s A h => h.elim) _ (paJ_lt hI0) (fun x e k => by
        rcases e with e | e
        · rcases k with k | k
          · omega
          · have := hvlt x k.2 k.1; omega
        · cases e) hI0
      (fun x => { tmps := #[.slice ao L.length cap, .int .i64 n, undef, .pointer (some ⟨w.heap.size, 0, none⟩), .slice none 0 0, .pointer (some ⟨w.heap.size + 1, 0, none⟩), .int .i64 (ofL x : Nat), .string x, .slice ao L.length cap, .func (.func 21) #[] #[.pointer (some ⟨w.heap.size + 1 + 1, 0, none⟩)], .int .i64 (ofL x : Nat), .string x, undef, undef, undef, undef, undef, undef, undef, undef], defers := [] }) ?assign ?body ?done ?stop
  case assign =>
    intro l2 x Wx K hK
    unfold encP
    gi_wp2
    exact hK
  case body =>
    rintro l2 F pre x Wx ⟨a, m, c, hp⟩ hsp hsz
    have y1 := (hp.oh.cell 0).trans rfl
    have y2 := (hp.og.cell 0).trans rfl
    have hin : inPart n x = decide ((ofL x : Int) = n) := rfl
    have hpm := partL_snoc pre x n
    have hle := part_pre hsp n
    generalize ofL x = f at *
    by_cases hfx : (f : Int) = n
    · rw [hin, decide_eq_true hfx, if_pos rfl] at hpm
      have q1 : ((f : Int) == n) = true := by rw [hfx]; exact beq_self_eq_true _
      have hlp : (partL pre n).length ≤ 1000000 := by
        have := congrArg List.length hpm
        rw [List.length_append] at this
        omega
      obtain ⟨a5, c5, w5, hrun, g5, hF5, hC5⟩ := paI_push hp x hpm hlp
      have y5 := (g5.cell 0).trans rfl
      have y6 := g5.frozen 0
      have HRun := hid hrun
      have HE : Hid (postT (PaJ w n) (fun _ _ _ => False) F (pre ++ [x]) Wx .normal { tmps := #[], defers := [] } (w5.setCell ⟨w.heap.size + 1, 0, none⟩ (.slice a5 (m + 1) c5))) := hid ⟨hF5, hC5⟩
      clear hp hpm hin hle hI0 hseq hrun hF5 hC5 hfx hlp
      gi_wp2_with (gi_at_builtin; refine wpListIn_append_at HRun.out (by with_reducible rfl) rfl _ _ rfl rfl rfl rfl ?_)
      exact HE.out
    · rw [hin, decide_eq_false hfx, if_neg (by simp), List.append_nil] at hpm
      have q1 : ((f : Int) == n) = false := beq_false_of_ne hfx
      have HE : Hid (postT (PaJ w n) (fun _ _ _ => False) F (pre ++ [x]) Wx .normal { tmps := #[], defers := [] } Wx) := hid ⟨⟨F, ⟨a, m, c, hp.hF, hp.og, hp.oh, by rw [hpm]; exact hp.row, by rw [hpm]; exact hp.len, hp.ng, hp.nh⟩, fun b e => .inl e⟩, Chg.refl _ _⟩
      clear hp hpm hin hle hI0 hseq
      gi_wp2
      exact HE.out
  case done =>
    rintro K F xs Wx hK hFK rfl ⟨a, m, c, hp⟩ hKd
    have y2 := (hp.og.cell 0).trans rfl
    have HE : Hid (RAt strTy (Wx.putObj K (.deferred none)) (.slice a (partL xs n).length c) (partL xs n) ∧ Below w.heap.size w (Wx.putObj K (.deferred none))) := hid (by
      have hcp := chg_putObj Wx K (.deferred none)
      have hr := hp.row.chg hcp (fun b e k => hFK (by rw [hp.hF]; exact .inr (by rw [← k]; exact e))) (fun b e => by omega)
      rw [hp.len] at hr
      exact ⟨hr.row.rAt, hr.below⟩)
    have hlen := hp.len
    subst hlen
    clear hp hI0 hseq
    gi_wp2
    refine ⟨by simp, .inl ⟨_, _, rfl, run_takeDeferred hKd, ?_⟩⟩
    exact ⟨_, results_tmp rfl _ _ _, a, c, rfl, HE.out.1, HE.out.2⟩
  case stop =>
    rintro K F pre Wx hK hFK hsp h hKd
    exact h.elim
end Go.Proofs.Ytnbghghkahaenaa
