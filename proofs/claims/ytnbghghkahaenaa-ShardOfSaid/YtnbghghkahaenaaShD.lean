/-
  LAYER 14 (shard), THE PROGRAM: Parts.
-/
import Derived.Test.YtnbghghkahaenaaShC
import Derived.Test.YtnbghghkahaenaaGRnd
import Derived.Test.YtnbghghkahaenaaShProg
import Derived.Deep.OwnRows
namespace Go.Proofs.Ytnbghghkahaenaa
open Go.RowKit Go.Shelf
attribute [local go_sem] Oper.semAt_some
set_option linter.unusedVariables false
set_option maxRecDepth 100000

def zeros8 : Array Value := #[.slice none 0 0, .slice none 0 0, .slice none 0 0, .slice none 0 0, .slice none 0 0, .slice none 0 0, .slice none 0 0, .slice none 0 0]
theorem run_made8 (w : World) : (Instr.makeSlice 28 (.int .i64 8) (.int .i64 8)).run Try.prog w = .ok (.slice (some ⟨w.heap.size, 0, none⟩) 8 8) (w.alloc (.cells zeros8 27)) := by
  obtain ⟨i, hi, hz, hs, hb⟩ := sTy_ok.parts
  have h := run_make_row (P := Try.prog) 28 27 i _ Try.underlying28 hi hz hs rfl .i64 .i64 8 (by rw [hb]; decide) (by decide) w
  have e : madeCells #[sTy.zero] 8 = zeros8 := by kernel_rfl
  rw [e] at h
  exact h
def cellOf (r : SRow) : Value := .slice r.a r.L.length r.c
/-- Parts between two rounds. -/
structure PsI (w : World) (F : Nat → Prop) (pre : List ByteArray) (W : World) (R : List SRow) : Prop where
  hF : F = (fun b => b = w.heap.size ∨ ∃ (i : Nat) (r : SRow), R[i]? = some r ∧ (cellOf r).ownBlock = some b)
  len : R.length = 8
  oc : own W w.heap.size (R.map cellOf).toArray 27
  ob : own W (w.heap.size + 1) #[.slice (some ⟨w.heap.size, 0, none⟩) 8 8] 28
  rows : ∀ (i : Nat) (r : SRow), R[i]? = some r → RMid strTy w W (cellOf r) r.L ∧ r.L = partL pre (i : Int) ∧ (cellOf r).ownBlock ≠ some w.heap.size ∧ (cellOf r).ownBlock ≠ some (w.heap.size + 1)
  apart : ∀ (i j : Nat) (ri rj : SRow) (b : Nat), R[i]? = some ri → R[j]? = some rj → i ≠ j → (cellOf ri).ownBlock = some b → (cellOf rj).ownBlock ≠ some b
  below : Below w.heap.size w W
def PsJ (w : World) (F : Nat → Prop) (pre : List ByteArray) (W : World) : Prop := ∃ R, PsI w F pre W R
theorem psJ_abide (w : World) (B : Nat) (hB : w.heap.size + 2 ≤ B) : Abide B (PsJ w) := by
  rintro F pre A C ⟨R, h⟩ hc
  have hF := h.hF
  refine ⟨R, hF, h.len, h.oc.chg hc (fun e => by omega), h.ob.chg hc (fun e => by omega), fun i r hr => ?_, h.apart, h.below.trans (hc.below h.below.size (fun b e => by omega))⟩
  obtain ⟨h1, h2⟩ := h.rows i r hr
  exact ⟨h1.chg hc (fun b e k => k.2 (by rw [hF]; exact .inr ⟨i, r, hr, e⟩)) (fun b e => by omega), h2⟩
theorem psJ_lt {w : World} {F : Nat → Prop} {pre : List ByteArray} {W : World} (h : PsJ w F pre W) : ∀ x, F x → x < W.heap.size := by
  obtain ⟨R, h⟩ := h
  rw [h.hF]
  rintro x (e | ⟨i, r, hr, e⟩)
  · rw [e]; exact h.oc.lt
  · exact (h.rows i r hr).1.row.lt x e
theorem partL_self (pre : List ByteArray) (x : ByteArray) : partL (pre ++ [x]) (ofL x : Int) = partL pre (ofL x : Int) ++ [x] := by
  rw [partL_snoc, if_pos (by unfold inPart; simp)]
theorem partL_else (pre : List ByteArray) (x : ByteArray) (n : Int) (h : (ofL x : Int) ≠ n) : partL (pre ++ [x]) n = partL pre n := by
  rw [partL_snoc, if_neg (by unfold inPart; simpa using h), List.append_nil]
theorem psI_push {w W : World} {F : Nat → Prop} {pre : List ByteArray} {R : List SRow} (h : PsI w F pre W R) (x : ByteArray) (hl : ∀ n, (partL pre n).length ≤ 1000000) :
    ∃ r a5 c5 w5, R[ofL x]? = some r ∧ (Builtin.append_ #[27, 27] 27 #[.slice r.a r.L.length r.c, .slice (some ⟨W.heap.size, 0, none⟩) 1 1]).run Try.prog (W.alloc (.cells #[.string x] 9)) = .ok (.slice a5 (r.L.length + 1) c5) w5 ∧ own w5 w.heap.size (R.map cellOf).toArray 27 ∧ own w5 (w.heap.size + 1) #[.slice (some ⟨w.heap.size, 0, none⟩) 8 8] 28 ∧
      (∃ F', PsJ w F' (pre ++ [x]) (w5.setCell ⟨w.heap.size, ofL x, none⟩ (.slice a5 (r.L.length + 1) c5)) ∧ ∀ b, F' b → F b ∨ W.heap.size ≤ b) ∧ Chg F W (w5.setCell ⟨w.heap.size, ofL x, none⟩ (.slice a5 (r.L.length + 1) c5)) := by
  have hb : Below W.heap.size W (W.alloc (.cells #[.string x] 9)) := (Below.refl _ _).alloc (Nat.le_refl _) _
  have hk := ofL_lt x
  have hself := partL_self pre x
  have helse := partL_else pre x
  generalize ofL x = k at *
  obtain ⟨r, hr⟩ : ∃ r, R[k]? = some r := ⟨_, List.getElem?_eq_getElem (by rw [h.len]; exact hk)⟩
  obtain ⟨hrow, hrL, hn1, hn2⟩ := h.rows k r hr
  have hgl := h.oc.lt
  have hhl := h.ob.lt
  have hrl := hrow.row.lt
  obtain ⟨a5, c5, w5, hrun, hown, hg, hat⟩ := run_app strTy_ok (W.alloc (.cells #[.string x] 9)) 27 (cellOf r) _ r.L [x] (hrow.row.below hb) (rAt_box strTy_ok (own.new W _ _) rfl) (by have := hl (k : Int); rw [← hrL] at this; simp; omega)
  have hml : r.L.length + [x].length = r.L.length + 1 := rfl
  rw [hml] at hrun hown hat
  have hc1 : Chg (fun b => (cellOf r).ownBlock = some b) W w5 := (Chg.of_below hb).trans (Chg.of_grown hg) (fun b e => .inl e)
  have e1 : (W.alloc (.cells #[.string x] 9)).heap.size = W.heap.size + 1 := by simp
  rw [e1] at hat
  have g5 := h.oc.chg hc1 hn1
  have b5 := h.ob.chg hc1 hn2
  have hc2 := Chg.setCell w5 ⟨w.heap.size, k, none⟩ (.slice a5 (r.L.length + 1) c5)
  have hnew : ∀ b, (Value.slice a5 (r.L.length + 1) c5).ownBlock = some b → (cellOf r).ownBlock = some b ∨ b = W.heap.size + 1 := fun b e => by
    rcases hat with k | k
    · rw [k] at e; exact .inl e
    · rw [k] at e; cases e; exact .inr rfl
  have hFk : ∀ b, (cellOf r).ownBlock = some b → F b := fun b e => by rw [h.hF]; exact .inr ⟨k, r, hr, e⟩
  have hF0 : F w.heap.size := by rw [h.hF]; exact .inl rfl
  have hcw : Chg F W (w5.setCell ⟨w.heap.size, k, none⟩ (.slice a5 (r.L.length + 1) c5)) := (hc1.mono hFk).trans hc2 (fun b e => .inl (by rw [e]; exact hF0))
  have hbw : Below w.heap.size w w5 := h.below.trans (hc1.below h.below.size (fun b e => hrow.new b e))
  have hbw2 : Below w.heap.size w (w5.setCell ⟨w.heap.size, k, none⟩ (.slice a5 (r.L.length + 1) c5)) := hbw.trans (hc2.below hbw.size (fun b e => by rw [e]; exact Nat.le_refl _))
  have hs5 := hc1.size
  obtain ⟨r', hr'⟩ : ∃ r' : SRow, r' = ⟨a5, c5, r.L ++ [x]⟩ := ⟨_, rfl⟩
  have hc' : cellOf r' = .slice a5 (r.L.length + 1) c5 := by rw [hr']; unfold cellOf; simp
  have hget : ∀ (i : Nat) (q : SRow), (R.set k r')[i]? = some q → (i = k ∧ q = r') ∨ (i ≠ k ∧ R[i]? = some q) := fun i q hq => by
    rw [List.getElem?_set] at hq
    by_cases hik : k = i
    · rw [if_pos hik, if_pos (by rw [h.len]; omega)] at hq
      exact .inl ⟨hik.symm, (Option.some.inj hq).symm⟩
    · rw [if_neg hik] at hq
      exact .inr ⟨fun e => hik e.symm, hq⟩
  rw [← hc'] at hat hnew hown
  have hbig : ∀ (i : Nat) (q : SRow) (b : Nat), R[i]? = some q → (cellOf q).ownBlock = some b → b < W.heap.size := fun i q b hq e => (h.rows i q hq).1.row.lt b e
  refine ⟨r, a5, c5, w5, hr, hrun, g5, b5, ⟨_, ⟨R.set k r', rfl, by rw [List.length_set]; exact h.len, ?_, b5.chg hc2 (fun e => by have e2 : w.heap.size + 1 = w.heap.size := e; omega), ?_, ?_, hbw2⟩, ?_⟩, hcw⟩
  · have h1 := g5.set k (.slice a5 (r.L.length + 1) c5)
    rw [← hc'] at h1
    rw [← hc']
    have e2 : ((R.map cellOf).toArray.setIfInBounds k (cellOf r')) = ((R.set k r').map cellOf).toArray := by
      rw [List.map_set]; simp
    rw [e2] at h1
    exact h1
  · intro i q hq
    rcases hget i q hq with ⟨rfl, rfl⟩ | ⟨hik, hq2⟩
    · have hm : RMid strTy w w5 (cellOf q) q.L := ⟨by rw [hr'] at hown ⊢; exact hown, fun b e => by
        rcases hnew b e with k | k
        · exact hrow.new b k
        · have := h.below.size; omega, hbw⟩
      have hq1 : (cellOf q).ownBlock ≠ some w.heap.size := fun e => by
        rcases hnew _ e with k | k
        · exact hn1 k
        · omega
      refine ⟨hm.chg hc2 (fun b e k => by have e3 : b = w.heap.size := k; rw [e3] at e; exact hq1 e) (fun b e => by have e3 : b = w.heap.size := e; omega), by rw [hself, hr', hrL], hq1, fun e => ?_⟩
      rcases hnew _ e with k | k
      · exact hn2 k
      · omega
    · obtain ⟨q1, q2, q3, q4⟩ := h.rows i q hq2
      have q5 : RMid strTy w w5 (cellOf q) q.L := q1.chg hc1 (fun b e k2 => h.apart i k q r b hq2 hr hik e k2) (fun b e => hrow.new b e)
      exact ⟨q5.chg hc2 (fun b e k2 => by have e3 : b = w.heap.size := k2; rw [e3] at e; exact q3 e) (fun b e => by have e3 : b = w.heap.size := e; omega), by rw [helse _ (by omega)]; exact q2, q3, q4⟩
  · intro i j ri rj b hi hj hij ei ej
    rcases hget i ri hi with ⟨rfl, rfl⟩ | ⟨hik, hi2⟩
    · rcases hget j rj hj with ⟨rfl, rfl⟩ | ⟨hjk, hj2⟩
      · exact hij rfl
      · rcases hnew b ei with k2 | k2
        · exact h.apart _ j r rj b hr hj2 hij k2 ej
        · have := hbig j rj b hj2 ej; omega
    · rcases hget j rj hj with ⟨rfl, rfl⟩ | ⟨hjk, hj2⟩
      · rcases hnew b ej with k2 | k2
        · exact h.apart i _ ri r b hi2 hr hij ei k2
        · have := hbig i ri b hi2 ei; omega
      · exact h.apart i j ri rj b hi2 hj2 hij ei ej
  · rintro b (e | ⟨i, q, hq, e⟩)
    · exact .inl (by rw [e]; exact hF0)
    · rcases hget i q hq with ⟨rfl, rfl⟩ | ⟨hik, hq2⟩
      · rcases hnew b e with k2 | k2
        · exact .inl (hFk b k2)
        · exact .inr (by omega)
      · exact .inl (by rw [h.hF]; exact .inr ⟨i, q, hq2, e⟩)
set_option maxHeartbeats 8000000 in
theorem shParts_any {w : World} {v : Value} {L : List ByteArray} (hv : RAt strTy w v L) (hl : L.length ≤ 100000) (hs : ∀ s ∈ L, s.size ≤ 1000000000) :
    Calls Try.prog 15 #[v] w fun e w' => ∃ a c, e = .returned (.slice a 8 c) ∧ PartsAt w' (.slice a 8 c) L ∧ Below w.heap.size w w' := by
  refine (callsIn_wide (n := 9)).1 ?_
  refine callsIn_of_wp_marks Try.func15 rfl trivial ?_ rfl
  simp only [Try.ntmps15, List.size_toArray, List.length_cons, List.length_nil, Nat.reduceAdd, Nat.reduceSub, Array.replicate_succ, Array.replicate_zero, List.push_toArray, List.append_toArray, List.nil_append, List.cons_append]
  obtain ⟨ao, cap, rfl, -⟩ := strs_at hv
  have hFr := hid (fun wx => placed_any ao L.length cap wx)
  have hMk := run_made8 w
  gi_wp2_with (refine ⟨trivial, ?_⟩; gi_at_call 20; with_reducible refine (callsIn_wide.2 (hFr.out _)).mono ?_; rintro e w5 ⟨rfl, rfl⟩)
  obtain ⟨W1, hW1⟩ : ∃ W1, w.alloc (.cells zeros8 27) = W1 := ⟨_, rfl⟩
  obtain ⟨W2, hW2⟩ : ∃ W2, W1.alloc (.cells #[.slice (some ⟨w.heap.size, 0, none⟩) 8 8] 28) = W2 := ⟨_, rfl⟩
  obtain ⟨W3, hW3⟩ : ∃ W3, W2.alloc (.cells #[.slice ao L.length cap] 27) = W3 := ⟨_, rfl⟩
  rw [hW1, hW2, hW3]
  have z1 : W1.heap.size = w.heap.size + 1 := by rw [← hW1]; simp
  have z2 : W2.heap.size = w.heap.size + 1 + 1 := by rw [← hW2]; simp [z1]
  have z3 : W3.heap.size = w.heap.size + 1 + 1 + 1 := by rw [← hW3]; simp [z2]
  have b1 : Below w.heap.size w W1 := by rw [← hW1]; exact (Below.refl _ _).alloc (Nat.le_refl _) _
  have b2 : Below W1.heap.size W1 W2 := by rw [← hW2]; exact (Below.refl _ _).alloc (Nat.le_refl _) _
  have b3 : Below W2.heap.size W2 W3 := by rw [← hW3]; exact (Below.refl _ _).alloc (Nat.le_refl _) _
  have o1 : own W1 w.heap.size zeros8 27 := by rw [← hW1]; exact own.new _ _ _
  have o2 : own W2 (w.heap.size + 1) #[.slice (some ⟨w.heap.size, 0, none⟩) 8 8] 28 := by rw [← hW2, ← z1]; exact own.new _ _ _
  have o3 : own W3 (w.heap.size + 1 + 1) #[.slice ao L.length cap] 27 := by rw [← hW3, ← z2]; exact own.new _ _ _
  have o1' : own W3 w.heap.size zeros8 27 := (o1.same (b2.block _ o1.lt)).same (b3.block _ (by omega))
  have o2' : own W3 (w.heap.size + 1) #[.slice (some ⟨w.heap.size, 0, none⟩) 8 8] 28 := o2.same (b3.block _ o2.lt)
  have b23 : Below w.heap.size w W3 := (b1.trans (b2.mono (by omega))).trans (b3.mono (by omega))
  have hrep : ∀ (i : Nat) (r : SRow), (List.replicate 8 (⟨none, 0, []⟩ : SRow))[i]? = some r → r = ⟨none, 0, []⟩ := fun i r hr => (List.mem_replicate.1 (List.mem_of_getElem? hr)).2
  have hI0 : PsJ w (fun b => b = w.heap.size ∨ ∃ (i : Nat) (r : SRow), (List.replicate 8 (⟨none, 0, []⟩ : SRow))[i]? = some r ∧ (cellOf r).ownBlock = some b) [] W3 := by
    refine ⟨List.replicate 8 ⟨none, 0, []⟩, rfl, by simp, by simpa [cellOf, zeros8] using o1', o2', fun i r hr => ?_, fun i j ri rj b hi hj _ ei => ?_, b23⟩
    · obtain rfl := hrep i r hr
      exact ⟨(rMid_nil w).later b23, by simp [partL], by simp [cellOf, Value.ownBlock], by simp [cellOf, Value.ownBlock]⟩
    · obtain rfl := hrep i ri hi
      simp [cellOf, Value.ownBlock] at ei
  have hvlt : ∀ b, (Value.slice ao L.length cap).ownBlock = some b → L ≠ [] → b < w.heap.size := fun b e hne => by
    obtain ⟨a', c', e', _, _, _, h4⟩ := hv
    cases e'
    obtain ⟨sb, so, e2, h5, _⟩ := h4 hne
    rw [e2] at e; cases e; exact h5
  have hseq := placed_seq (w.heap.size + 1 + 1) (.slice ao L.length cap) L hl hs W3 o3 (hv.below b23)
  clear hW1 hW2 hW3 hMk
  refine wpIn_rangeT (gf := 21) (lb := #[.pointer (some ⟨w.heap.size + 1 + 1, 0, none⟩)]) rfl (enters_of Try.func21 (by kernel_rfl) rfl)
      hseq (Below.refl _ _) (fun x e => by
        rcases e with e | ⟨e1, e2⟩
        · omega
        · have := hvlt x e2 e1; omega) (fun _ => rfl)
      (PsJ w) (fun _ _ _ => False)
      (psJ_abide w W3.heap.size (by omega)) (fun _ _ _ _ h _ => h) (fun F s A h => psJ_lt h) (fun F s A h => h.elim) _ (psJ_lt hI0) (fun x e k => by
        rcases e with e | ⟨i, r, hr, e⟩
        · rcases k with k | k
          · omega
          · have := hvlt x k.2 k.1; omega
        · obtain rfl := hrep i r hr
          simp [cellOf, Value.ownBlock] at e) hI0
      (fun x => { tmps := #[.slice ao L.length cap, undef, .slice none 0 0, .pointer (some ⟨w.heap.size + 1, 0, none⟩), .int .i64 (ofL x : Nat), .string x, .slice (some ⟨w.heap.size, 0, none⟩) 8 8, .slice ao L.length cap, .func (.func 21) #[] #[.pointer (some ⟨w.heap.size + 1 + 1, 0, none⟩)], .int .i64 (ofL x : Nat), .string x, undef, undef, undef, undef, undef, undef, undef, undef, undef, undef, undef], defers := [] }) ?assign ?body ?done ?stop
  case assign =>
    intro l2 x Wx K hK
    unfold encP
    gi_wp2
    exact hK
  case body =>
    rintro l2 F pre x Wx ⟨R, hp⟩ hsp hsz
    have hle : ∀ n, (partL pre n).length ≤ 1000000 := fun n => by
      obtain ⟨q, hq⟩ := hsp
      have h1 := part_len pre n
      have h2 := congrArg List.length hq
      rw [List.length_append, List.length_append] at h2
      omega
    have hpd : PsI w F pre Wx.drew R := ⟨hp.hF, hp.len, hp.oc, hp.ob, fun i r hr => ⟨(hp.rows i r hr).1.later (Below.drew (Below.refl _ _)), (hp.rows i r hr).2⟩, hp.apart, Below.drew hp.below⟩
    obtain ⟨r, a5, c5, w5, hr, hrun, g5, b5, hF5, hC5⟩ := psI_push hpd x hle
    have hk := ofL_lt x
    have HE : Hid (postT (PsJ w) (fun _ _ _ => False) F (pre ++ [x]) Wx .normal { tmps := #[], defers := [] } (w5.setCell ⟨w.heap.size, ofL x, none⟩ (.slice a5 (r.L.length + 1) c5))) := hid ⟨hF5, ⟨hC5.os, hC5.tape, hC5.output, hC5.size, hC5.block⟩⟩
    have c1 : Wx.cell? ⟨w.heap.size + 1, 0, none⟩ = some (.slice (some ⟨w.heap.size, 0, none⟩) 8 8) := (hp.ob.cell 0).trans rfl
    have c2 : Wx.cell? ⟨w.heap.size, ofL x, none⟩ = some (.slice r.a r.L.length r.c) := by
      rw [hp.oc.cell]
      simp [hr, cellOf]
    have ds : ∀ o, (Wx.alloc o).cell? ⟨w.heap.size + 1, 0, none⟩ = some (.slice (some ⟨w.heap.size, 0, none⟩) 8 8) ∧ (Wx.alloc o).cell? ⟨w.heap.size, ofL x, none⟩ = some (.slice r.a r.L.length r.c) := fun o => by
      have hb : Below Wx.heap.size Wx (Wx.alloc o) := (Below.refl _ _).alloc (Nat.le_refl _) _
      exact ⟨(hb.cell (p := ⟨w.heap.size + 1, 0, none⟩) hp.ob.lt).trans c1, (hb.cell (p := ⟨w.heap.size, ofL x, none⟩) hp.oc.lt).trans c2⟩
    obtain ⟨ds1, ds2⟩ : (∀ o, (Wx.alloc o).cell? ⟨w.heap.size + 1, 0, none⟩ = some (.slice (some ⟨w.heap.size, 0, none⟩) 8 8)) ∧ (∀ o, (Wx.alloc o).cell? ⟨w.heap.size, ofL x, none⟩ = some (.slice r.a r.L.length r.c)) := ⟨fun o => (ds o).1, fun o => (ds o).2⟩
    have y1 : w5.cell? ⟨w.heap.size + 1, 0, none⟩ = some (.slice (some ⟨w.heap.size, 0, none⟩) 8 8) := (b5.cell 0).trans rfl
    have y2 : w5.cell? ⟨w.heap.size, ofL x, none⟩ = some (.slice r.a r.L.length r.c) := by
      rw [g5.cell]
      simp [hr, cellOf]
    have y3 := g5.frozen (ofL x)
    have hrun2 : (Builtin.append_ #[27, 27] 27 #[.slice r.a r.L.length r.c, .slice (some ⟨Wx.heap.size, 0, none⟩) 1 1]).run Try.prog (Wx.alloc (.cells #[.string x] 9)).drew = .ok (.slice a5 (r.L.length + 1) c5) w5 := hrun
    clear hp hpd hseq hI0 hsp hle hr hrun g5 b5 hF5 hC5 ds
    generalize ofL x = k at *
    have k1 : (k : Int) < 8 := by omega
    have k2 : (0 : Int) ≤ (k : Int) := by omega
    have k3 : w.heap.size < w.heap.size + 1 := by omega
    have k4 : k < 8 := hk
    have hmix : Try.prog.follows .mixedOrders = true := by kernel_rfl
    gi_wp2
    refine wpIn_region_any hmix ?_
    refine wpAnyIn_round (F := Fence.wide) rfl (fun i o ho c e => by
      match i, ho with
      | 0, ho | 1, ho | 2, ho | 3, ho | 4, ho | 5, ho | 6, ho | 7, ho | 8, ho | 9, ho | 10, ho => cases ho; cases e
      | i + 11, ho => simp at ho) _ _ _ _ ?_
    change wpAnyIn _ _ _ _ _ _ _ _ _ (World.drew _)
    refine wpAnyIn_take (i := 1) (v := .int .i64 (k : Int)) rfl rfl (by kernel_rfl) (by kernel_rfl) (by kernel_rfl) (fun _ _ _ h => h) ⟨Or.inl ⟨by rfl, ?_⟩, fun _ => rfl⟩ ?_
    · (intro w; go_simp)
    refine wpAnyIn_take (i := 3) (v := .int .i64 (k : Int)) rfl rfl (by kernel_rfl) (by kernel_rfl) (by kernel_rfl) (fun _ _ _ h => h) ⟨Or.inl ⟨by rfl, ?_⟩, fun _ => rfl⟩ ?_
    · (intro w; go_simp)
    refine wpAnyIn_take (i := 6) (v := .string x) rfl rfl (by kernel_rfl) (by kernel_rfl) (by kernel_rfl) (fun _ _ _ h => h) ⟨Or.inl ⟨by rfl, ?_⟩, fun _ => rfl⟩ ?_
    · (intro w; go_simp)
    refine wpAnyIn_ready (rs := [0, 2, 7]) (by kernel_rfl) (by simp) ?_
    refine AllReadyIn.cons rfl (fun K hK => ?_) (AllReadyIn.cons rfl (fun K hK => ?_) (AllReadyIn.cons rfl (fun K hK => ?_) (AllReadyIn.nil)))
    · go_simp
      refine hK _ _ ?_
      clear hK K
      refine wpAnyIn_ready (rs := [2, 7]) (by kernel_rfl) (by simp) ?_
      refine AllReadyIn.cons rfl (fun K hK => ?_) (AllReadyIn.cons rfl (fun K hK => ?_) (AllReadyIn.nil))
      · go_simp
        refine hK _ _ ?_
        clear hK K
        refine wpAnyIn_ready (rs := [4, 7]) (by kernel_rfl) (by simp) ?_
        refine AllReadyIn.cons rfl (fun K hK => ?_) (AllReadyIn.cons rfl (fun K hK => ?_) (AllReadyIn.nil))
        · go_simp
          refine hK _ _ ?_
          clear hK K
          refine wpAnyIn_ready (rs := [5, 7]) (by kernel_rfl) (by simp) ?_
          refine AllReadyIn.cons rfl (fun K hK => ?_) (AllReadyIn.cons rfl (fun K hK => ?_) (AllReadyIn.nil))
          · go_simp
            refine hK _ _ ?_
            clear hK K
            refine wpAnyIn_ready (rs := [7]) (by kernel_rfl) (by simp) ?_
            refine AllReadyIn.cons rfl (fun K hK => ?_) (AllReadyIn.nil)
            · go_simp
              refine hK _ _ ?_
              clear hK K
              refine wpAnyIn_ready (rs := [8]) (by kernel_rfl) (by simp) ?_
              refine AllReadyIn.cons rfl (fun K hK => ?_) (AllReadyIn.nil)
              · refine stepIn_append_at hrun2 (by with_reducible rfl) rfl _ _ rfl rfl rfl rfl ?_
                refine hK _ _ ?_
                clear hK K
                refine wpAnyIn_ready (rs := [9]) (by kernel_rfl) (by simp) ?_
                refine AllReadyIn.cons rfl (fun K hK => ?_) (AllReadyIn.nil)
                · go_simp
                  refine hK _ _ ?_
                  clear hK K
                  refine wpAnyIn_ready (rs := [10]) (by kernel_rfl) (by simp) ?_
                  refine AllReadyIn.cons rfl (fun K hK => ?_) (AllReadyIn.nil)
                  · go_simp
                    refine hK _ _ ?_
                    clear hK K
                    refine wpAnyIn_done (by kernel_rfl) ?_ _
                    exact HE.out
          · go_simp
            refine hK _ _ ?_
            clear hK K
            refine wpAnyIn_ready (rs := [5]) (by kernel_rfl) (by simp) ?_
            refine AllReadyIn.cons rfl (fun K hK => ?_) (AllReadyIn.nil)
            · go_simp
              refine hK _ _ ?_
              clear hK K
              refine wpAnyIn_ready (rs := [8]) (by kernel_rfl) (by simp) ?_
              refine AllReadyIn.cons rfl (fun K hK => ?_) (AllReadyIn.nil)
              · refine stepIn_append_at hrun2 (by with_reducible rfl) rfl _ _ rfl rfl rfl rfl ?_
                refine hK _ _ ?_
                clear hK K
                refine wpAnyIn_ready (rs := [9]) (by kernel_rfl) (by simp) ?_
                refine AllReadyIn.cons rfl (fun K hK => ?_) (AllReadyIn.nil)
                · go_simp
                  refine hK _ _ ?_
                  clear hK K
                  refine wpAnyIn_ready (rs := [10]) (by kernel_rfl) (by simp) ?_
                  refine AllReadyIn.cons rfl (fun K hK => ?_) (AllReadyIn.nil)
                  · go_simp
                    refine hK _ _ ?_
                    clear hK K
                    refine wpAnyIn_done (by kernel_rfl) ?_ _
                    exact HE.out
        · go_simp
          refine hK _ _ ?_
          clear hK K
          refine wpAnyIn_ready (rs := [4]) (by kernel_rfl) (by simp) ?_
          refine AllReadyIn.cons rfl (fun K hK => ?_) (AllReadyIn.nil)
          · go_simp
            refine hK _ _ ?_
            clear hK K
            refine wpAnyIn_ready (rs := [5]) (by kernel_rfl) (by simp) ?_
            refine AllReadyIn.cons rfl (fun K hK => ?_) (AllReadyIn.nil)
            · go_simp
              refine hK _ _ ?_
              clear hK K
              refine wpAnyIn_ready (rs := [8]) (by kernel_rfl) (by simp) ?_
              refine AllReadyIn.cons rfl (fun K hK => ?_) (AllReadyIn.nil)
              · refine stepIn_append_at hrun2 (by with_reducible rfl) rfl _ _ rfl rfl rfl rfl ?_
                refine hK _ _ ?_
                clear hK K
                refine wpAnyIn_ready (rs := [9]) (by kernel_rfl) (by simp) ?_
                refine AllReadyIn.cons rfl (fun K hK => ?_) (AllReadyIn.nil)
                · go_simp
                  refine hK _ _ ?_
                  clear hK K
                  refine wpAnyIn_ready (rs := [10]) (by kernel_rfl) (by simp) ?_
                  refine AllReadyIn.cons rfl (fun K hK => ?_) (AllReadyIn.nil)
                  · go_simp
                    refine hK _ _ ?_
                    clear hK K
                    refine wpAnyIn_done (by kernel_rfl) ?_ _
                    exact HE.out
      · go_simp
        refine hK _ _ ?_
        clear hK K
        refine wpAnyIn_ready (rs := [2]) (by kernel_rfl) (by simp) ?_
        refine AllReadyIn.cons rfl (fun K hK => ?_) (AllReadyIn.nil)
        · go_simp
          refine hK _ _ ?_
          clear hK K
          refine wpAnyIn_ready (rs := [4]) (by kernel_rfl) (by simp) ?_
          refine AllReadyIn.cons rfl (fun K hK => ?_) (AllReadyIn.nil)
          · go_simp
            refine hK _ _ ?_
            clear hK K
            refine wpAnyIn_ready (rs := [5]) (by kernel_rfl) (by simp) ?_
            refine AllReadyIn.cons rfl (fun K hK => ?_) (AllReadyIn.nil)
            · go_simp
              refine hK _ _ ?_
              clear hK K
              refine wpAnyIn_ready (rs := [8]) (by kernel_rfl) (by simp) ?_
              refine AllReadyIn.cons rfl (fun K hK => ?_) (AllReadyIn.nil)
              · refine stepIn_append_at hrun2 (by with_reducible rfl) rfl _ _ rfl rfl rfl rfl ?_
                refine hK _ _ ?_
                clear hK K
                refine wpAnyIn_ready (rs := [9]) (by kernel_rfl) (by simp) ?_
                refine AllReadyIn.cons rfl (fun K hK => ?_) (AllReadyIn.nil)
                · go_simp
                  refine hK _ _ ?_
                  clear hK K
                  refine wpAnyIn_ready (rs := [10]) (by kernel_rfl) (by simp) ?_
                  refine AllReadyIn.cons rfl (fun K hK => ?_) (AllReadyIn.nil)
                  · go_simp
                    refine hK _ _ ?_
                    clear hK K
                    refine wpAnyIn_done (by kernel_rfl) ?_ _
                    exact HE.out
    · go_simp
      refine hK _ _ ?_
      clear hK K
      refine wpAnyIn_ready (rs := [0, 4, 7]) (by kernel_rfl) (by simp) ?_
      refine AllReadyIn.cons rfl (fun K hK => ?_) (AllReadyIn.cons rfl (fun K hK => ?_) (AllReadyIn.cons rfl (fun K hK => ?_) (AllReadyIn.nil)))
      · go_simp
        refine hK _ _ ?_
        clear hK K
        refine wpAnyIn_ready (rs := [4, 7]) (by kernel_rfl) (by simp) ?_
        refine AllReadyIn.cons rfl (fun K hK => ?_) (AllReadyIn.cons rfl (fun K hK => ?_) (AllReadyIn.nil))
        · go_simp
          refine hK _ _ ?_
          clear hK K
          refine wpAnyIn_ready (rs := [5, 7]) (by kernel_rfl) (by simp) ?_
          refine AllReadyIn.cons rfl (fun K hK => ?_) (AllReadyIn.cons rfl (fun K hK => ?_) (AllReadyIn.nil))
          · go_simp
            refine hK _ _ ?_
            clear hK K
            refine wpAnyIn_ready (rs := [7]) (by kernel_rfl) (by simp) ?_
            refine AllReadyIn.cons rfl (fun K hK => ?_) (AllReadyIn.nil)
            · go_simp
              refine hK _ _ ?_
              clear hK K
              refine wpAnyIn_ready (rs := [8]) (by kernel_rfl) (by simp) ?_
              refine AllReadyIn.cons rfl (fun K hK => ?_) (AllReadyIn.nil)
              · refine stepIn_append_at hrun2 (by with_reducible rfl) rfl _ _ rfl rfl rfl rfl ?_
                refine hK _ _ ?_
                clear hK K
                refine wpAnyIn_ready (rs := [9]) (by kernel_rfl) (by simp) ?_
                refine AllReadyIn.cons rfl (fun K hK => ?_) (AllReadyIn.nil)
                · go_simp
                  refine hK _ _ ?_
                  clear hK K
                  refine wpAnyIn_ready (rs := [10]) (by kernel_rfl) (by simp) ?_
                  refine AllReadyIn.cons rfl (fun K hK => ?_) (AllReadyIn.nil)
                  · go_simp
                    refine hK _ _ ?_
                    clear hK K
                    refine wpAnyIn_done (by kernel_rfl) ?_ _
                    exact HE.out
          · go_simp
            refine hK _ _ ?_
            clear hK K
            refine wpAnyIn_ready (rs := [5]) (by kernel_rfl) (by simp) ?_
            refine AllReadyIn.cons rfl (fun K hK => ?_) (AllReadyIn.nil)
            · go_simp
              refine hK _ _ ?_
              clear hK K
              refine wpAnyIn_ready (rs := [8]) (by kernel_rfl) (by simp) ?_
              refine AllReadyIn.cons rfl (fun K hK => ?_) (AllReadyIn.nil)
              · refine stepIn_append_at hrun2 (by with_reducible rfl) rfl _ _ rfl rfl rfl rfl ?_
                refine hK _ _ ?_
                clear hK K
                refine wpAnyIn_ready (rs := [9]) (by kernel_rfl) (by simp) ?_
                refine AllReadyIn.cons rfl (fun K hK => ?_) (AllReadyIn.nil)
                · go_simp
                  refine hK _ _ ?_
                  clear hK K
                  refine wpAnyIn_ready (rs := [10]) (by kernel_rfl) (by simp) ?_
                  refine AllReadyIn.cons rfl (fun K hK => ?_) (AllReadyIn.nil)
                  · go_simp
                    refine hK _ _ ?_
                    clear hK K
                    refine wpAnyIn_done (by kernel_rfl) ?_ _
                    exact HE.out
        · go_simp
          refine hK _ _ ?_
          clear hK K
          refine wpAnyIn_ready (rs := [4]) (by kernel_rfl) (by simp) ?_
          refine AllReadyIn.cons rfl (fun K hK => ?_) (AllReadyIn.nil)
          · go_simp
            refine hK _ _ ?_
            clear hK K
            refine wpAnyIn_ready (rs := [5]) (by kernel_rfl) (by simp) ?_
            refine AllReadyIn.cons rfl (fun K hK => ?_) (AllReadyIn.nil)
            · go_simp
              refine hK _ _ ?_
              clear hK K
              refine wpAnyIn_ready (rs := [8]) (by kernel_rfl) (by simp) ?_
              refine AllReadyIn.cons rfl (fun K hK => ?_) (AllReadyIn.nil)
              · refine stepIn_append_at hrun2 (by with_reducible rfl) rfl _ _ rfl rfl rfl rfl ?_
                refine hK _ _ ?_
                clear hK K
                refine wpAnyIn_ready (rs := [9]) (by kernel_rfl) (by simp) ?_
                refine AllReadyIn.cons rfl (fun K hK => ?_) (AllReadyIn.nil)
                · go_simp
                  refine hK _ _ ?_
                  clear hK K
                  refine wpAnyIn_ready (rs := [10]) (by kernel_rfl) (by simp) ?_
                  refine AllReadyIn.cons rfl (fun K hK => ?_) (AllReadyIn.nil)
                  · go_simp
                    refine hK _ _ ?_
                    clear hK K
                    refine wpAnyIn_done (by kernel_rfl) ?_ _
                    exact HE.out
      · go_simp
        refine hK _ _ ?_
        clear hK K
        refine wpAnyIn_ready (rs := [0, 5, 7]) (by kernel_rfl) (by simp) ?_
        refine AllReadyIn.cons rfl (fun K hK => ?_) (AllReadyIn.cons rfl (fun K hK => ?_) (AllReadyIn.cons rfl (fun K hK => ?_) (AllReadyIn.nil)))
        · go_simp
          refine hK _ _ ?_
          clear hK K
          refine wpAnyIn_ready (rs := [5, 7]) (by kernel_rfl) (by simp) ?_
          refine AllReadyIn.cons rfl (fun K hK => ?_) (AllReadyIn.cons rfl (fun K hK => ?_) (AllReadyIn.nil))
          · go_simp
            refine hK _ _ ?_
            clear hK K
            refine wpAnyIn_ready (rs := [7]) (by kernel_rfl) (by simp) ?_
            refine AllReadyIn.cons rfl (fun K hK => ?_) (AllReadyIn.nil)
            · go_simp
              refine hK _ _ ?_
              clear hK K
              refine wpAnyIn_ready (rs := [8]) (by kernel_rfl) (by simp) ?_
              refine AllReadyIn.cons rfl (fun K hK => ?_) (AllReadyIn.nil)
              · refine stepIn_append_at hrun2 (by with_reducible rfl) rfl _ _ rfl rfl rfl rfl ?_
                refine hK _ _ ?_
                clear hK K
                refine wpAnyIn_ready (rs := [9]) (by kernel_rfl) (by simp) ?_
                refine AllReadyIn.cons rfl (fun K hK => ?_) (AllReadyIn.nil)
                · go_simp
                  refine hK _ _ ?_
                  clear hK K
                  refine wpAnyIn_ready (rs := [10]) (by kernel_rfl) (by simp) ?_
                  refine AllReadyIn.cons rfl (fun K hK => ?_) (AllReadyIn.nil)
                  · go_simp
                    refine hK _ _ ?_
                    clear hK K
                    refine wpAnyIn_done (by kernel_rfl) ?_ _
                    exact HE.out
          · go_simp
            refine hK _ _ ?_
            clear hK K
            refine wpAnyIn_ready (rs := [5]) (by kernel_rfl) (by simp) ?_
            refine AllReadyIn.cons rfl (fun K hK => ?_) (AllReadyIn.nil)
            · go_simp
              refine hK _ _ ?_
              clear hK K
              refine wpAnyIn_ready (rs := [8]) (by kernel_rfl) (by simp) ?_
              refine AllReadyIn.cons rfl (fun K hK => ?_) (AllReadyIn.nil)
              · refine stepIn_append_at hrun2 (by with_reducible rfl) rfl _ _ rfl rfl rfl rfl ?_
                refine hK _ _ ?_
                clear hK K
                refine wpAnyIn_ready (rs := [9]) (by kernel_rfl) (by simp) ?_
                refine AllReadyIn.cons rfl (fun K hK => ?_) (AllReadyIn.nil)
                · go_simp
                  refine hK _ _ ?_
                  clear hK K
                  refine wpAnyIn_ready (rs := [10]) (by kernel_rfl) (by simp) ?_
                  refine AllReadyIn.cons rfl (fun K hK => ?_) (AllReadyIn.nil)
                  · go_simp
                    refine hK _ _ ?_
                    clear hK K
                    refine wpAnyIn_done (by kernel_rfl) ?_ _
                    exact HE.out
        · go_simp
          refine hK _ _ ?_
          clear hK K
          refine wpAnyIn_ready (rs := [0, 7]) (by kernel_rfl) (by simp) ?_
          refine AllReadyIn.cons rfl (fun K hK => ?_) (AllReadyIn.cons rfl (fun K hK => ?_) (AllReadyIn.nil))
          · go_simp
            refine hK _ _ ?_
            clear hK K
            refine wpAnyIn_ready (rs := [7]) (by kernel_rfl) (by simp) ?_
            refine AllReadyIn.cons rfl (fun K hK => ?_) (AllReadyIn.nil)
            · go_simp
              refine hK _ _ ?_
              clear hK K
              refine wpAnyIn_ready (rs := [8]) (by kernel_rfl) (by simp) ?_
              refine AllReadyIn.cons rfl (fun K hK => ?_) (AllReadyIn.nil)
              · refine stepIn_append_at hrun2 (by with_reducible rfl) rfl _ _ rfl rfl rfl rfl ?_
                refine hK _ _ ?_
                clear hK K
                refine wpAnyIn_ready (rs := [9]) (by kernel_rfl) (by simp) ?_
                refine AllReadyIn.cons rfl (fun K hK => ?_) (AllReadyIn.nil)
                · go_simp
                  refine hK _ _ ?_
                  clear hK K
                  refine wpAnyIn_ready (rs := [10]) (by kernel_rfl) (by simp) ?_
                  refine AllReadyIn.cons rfl (fun K hK => ?_) (AllReadyIn.nil)
                  · go_simp
                    refine hK _ _ ?_
                    clear hK K
                    refine wpAnyIn_done (by kernel_rfl) ?_ _
                    exact HE.out
          · go_simp
            refine hK _ _ ?_
            clear hK K
            refine wpAnyIn_ready (rs := [0, 8]) (by kernel_rfl) (by simp) ?_
            refine AllReadyIn.cons rfl (fun K hK => ?_) (AllReadyIn.cons rfl (fun K hK => ?_) (AllReadyIn.nil))
            · go_simp
              refine hK _ _ ?_
              clear hK K
              refine wpAnyIn_ready (rs := [8]) (by kernel_rfl) (by simp) ?_
              refine AllReadyIn.cons rfl (fun K hK => ?_) (AllReadyIn.nil)
              · refine stepIn_append_at hrun2 (by with_reducible rfl) rfl _ _ rfl rfl rfl rfl ?_
                refine hK _ _ ?_
                clear hK K
                refine wpAnyIn_ready (rs := [9]) (by kernel_rfl) (by simp) ?_
                refine AllReadyIn.cons rfl (fun K hK => ?_) (AllReadyIn.nil)
                · go_simp
                  refine hK _ _ ?_
                  clear hK K
                  refine wpAnyIn_ready (rs := [10]) (by kernel_rfl) (by simp) ?_
                  refine AllReadyIn.cons rfl (fun K hK => ?_) (AllReadyIn.nil)
                  · go_simp
                    refine hK _ _ ?_
                    clear hK K
                    refine wpAnyIn_done (by kernel_rfl) ?_ _
                    exact HE.out
            · refine stepIn_append_at hrun2 (by with_reducible rfl) rfl _ _ rfl rfl rfl rfl ?_
              refine hK _ _ ?_
              clear hK K
              refine wpAnyIn_ready (rs := [0]) (by kernel_rfl) (by simp) ?_
              refine AllReadyIn.cons rfl (fun K hK => ?_) (AllReadyIn.nil)
              · go_simp
                refine hK _ _ ?_
                clear hK K
                refine wpAnyIn_ready (rs := [9]) (by kernel_rfl) (by simp) ?_
                refine AllReadyIn.cons rfl (fun K hK => ?_) (AllReadyIn.nil)
                · go_simp
                  refine hK _ _ ?_
                  clear hK K
                  refine wpAnyIn_ready (rs := [10]) (by kernel_rfl) (by simp) ?_
                  refine AllReadyIn.cons rfl (fun K hK => ?_) (AllReadyIn.nil)
                  · go_simp
                    refine hK _ _ ?_
                    clear hK K
                    refine wpAnyIn_done (by kernel_rfl) ?_ _
                    exact HE.out
        · go_simp
          refine hK _ _ ?_
          clear hK K
          refine wpAnyIn_ready (rs := [0, 5]) (by kernel_rfl) (by simp) ?_
          refine AllReadyIn.cons rfl (fun K hK => ?_) (AllReadyIn.cons rfl (fun K hK => ?_) (AllReadyIn.nil))
          · go_simp
            refine hK _ _ ?_
            clear hK K
            refine wpAnyIn_ready (rs := [5]) (by kernel_rfl) (by simp) ?_
            refine AllReadyIn.cons rfl (fun K hK => ?_) (AllReadyIn.nil)
            · go_simp
              refine hK _ _ ?_
              clear hK K
              refine wpAnyIn_ready (rs := [8]) (by kernel_rfl) (by simp) ?_
              refine AllReadyIn.cons rfl (fun K hK => ?_) (AllReadyIn.nil)
              · refine stepIn_append_at hrun2 (by with_reducible rfl) rfl _ _ rfl rfl rfl rfl ?_
                refine hK _ _ ?_
                clear hK K
                refine wpAnyIn_ready (rs := [9]) (by kernel_rfl) (by simp) ?_
                refine AllReadyIn.cons rfl (fun K hK => ?_) (AllReadyIn.nil)
                · go_simp
                  refine hK _ _ ?_
                  clear hK K
                  refine wpAnyIn_ready (rs := [10]) (by kernel_rfl) (by simp) ?_
                  refine AllReadyIn.cons rfl (fun K hK => ?_) (AllReadyIn.nil)
                  · go_simp
                    refine hK _ _ ?_
                    clear hK K
                    refine wpAnyIn_done (by kernel_rfl) ?_ _
                    exact HE.out
          · go_simp
            refine hK _ _ ?_
            clear hK K
            refine wpAnyIn_ready (rs := [0, 8]) (by kernel_rfl) (by simp) ?_
            refine AllReadyIn.cons rfl (fun K hK => ?_) (AllReadyIn.cons rfl (fun K hK => ?_) (AllReadyIn.nil))
            · go_simp
              refine hK _ _ ?_
              clear hK K
              refine wpAnyIn_ready (rs := [8]) (by kernel_rfl) (by simp) ?_
              refine AllReadyIn.cons rfl (fun K hK => ?_) (AllReadyIn.nil)
              · refine stepIn_append_at hrun2 (by with_reducible rfl) rfl _ _ rfl rfl rfl rfl ?_
                refine hK _ _ ?_
                clear hK K
                refine wpAnyIn_ready (rs := [9]) (by kernel_rfl) (by simp) ?_
                refine AllReadyIn.cons rfl (fun K hK => ?_) (AllReadyIn.nil)
                · go_simp
                  refine hK _ _ ?_
                  clear hK K
                  refine wpAnyIn_ready (rs := [10]) (by kernel_rfl) (by simp) ?_
                  refine AllReadyIn.cons rfl (fun K hK => ?_) (AllReadyIn.nil)
                  · go_simp
                    refine hK _ _ ?_
                    clear hK K
                    refine wpAnyIn_done (by kernel_rfl) ?_ _
                    exact HE.out
            · refine stepIn_append_at hrun2 (by with_reducible rfl) rfl _ _ rfl rfl rfl rfl ?_
              refine hK _ _ ?_
              clear hK K
              refine wpAnyIn_ready (rs := [0]) (by kernel_rfl) (by simp) ?_
              refine AllReadyIn.cons rfl (fun K hK => ?_) (AllReadyIn.nil)
              · go_simp
                refine hK _ _ ?_
                clear hK K
                refine wpAnyIn_ready (rs := [9]) (by kernel_rfl) (by simp) ?_
                refine AllReadyIn.cons rfl (fun K hK => ?_) (AllReadyIn.nil)
                · go_simp
                  refine hK _ _ ?_
                  clear hK K
                  refine wpAnyIn_ready (rs := [10]) (by kernel_rfl) (by simp) ?_
                  refine AllReadyIn.cons rfl (fun K hK => ?_) (AllReadyIn.nil)
                  · go_simp
                    refine hK _ _ ?_
                    clear hK K
                    refine wpAnyIn_done (by kernel_rfl) ?_ _
                    exact HE.out
      · go_simp
        refine hK _ _ ?_
        clear hK K
        refine wpAnyIn_ready (rs := [0, 4]) (by kernel_rfl) (by simp) ?_
        refine AllReadyIn.cons rfl (fun K hK => ?_) (AllReadyIn.cons rfl (fun K hK => ?_) (AllReadyIn.nil))
        · go_simp
          refine hK _ _ ?_
          clear hK K
          refine wpAnyIn_ready (rs := [4]) (by kernel_rfl) (by simp) ?_
          refine AllReadyIn.cons rfl (fun K hK => ?_) (AllReadyIn.nil)
          · go_simp
            refine hK _ _ ?_
            clear hK K
            refine wpAnyIn_ready (rs := [5]) (by kernel_rfl) (by simp) ?_
            refine AllReadyIn.cons rfl (fun K hK => ?_) (AllReadyIn.nil)
            · go_simp
              refine hK _ _ ?_
              clear hK K
              refine wpAnyIn_ready (rs := [8]) (by kernel_rfl) (by simp) ?_
              refine AllReadyIn.cons rfl (fun K hK => ?_) (AllReadyIn.nil)
              · refine stepIn_append_at hrun2 (by with_reducible rfl) rfl _ _ rfl rfl rfl rfl ?_
                refine hK _ _ ?_
                clear hK K
                refine wpAnyIn_ready (rs := [9]) (by kernel_rfl) (by simp) ?_
                refine AllReadyIn.cons rfl (fun K hK => ?_) (AllReadyIn.nil)
                · go_simp
                  refine hK _ _ ?_
                  clear hK K
                  refine wpAnyIn_ready (rs := [10]) (by kernel_rfl) (by simp) ?_
                  refine AllReadyIn.cons rfl (fun K hK => ?_) (AllReadyIn.nil)
                  · go_simp
                    refine hK _ _ ?_
                    clear hK K
                    refine wpAnyIn_done (by kernel_rfl) ?_ _
                    exact HE.out
        · go_simp
          refine hK _ _ ?_
          clear hK K
          refine wpAnyIn_ready (rs := [0, 5]) (by kernel_rfl) (by simp) ?_
          refine AllReadyIn.cons rfl (fun K hK => ?_) (AllReadyIn.cons rfl (fun K hK => ?_) (AllReadyIn.nil))
          · go_simp
            refine hK _ _ ?_
            clear hK K
            refine wpAnyIn_ready (rs := [5]) (by kernel_rfl) (by simp) ?_
            refine AllReadyIn.cons rfl (fun K hK => ?_) (AllReadyIn.nil)
            · go_simp
              refine hK _ _ ?_
              clear hK K
              refine wpAnyIn_ready (rs := [8]) (by kernel_rfl) (by simp) ?_
              refine AllReadyIn.cons rfl (fun K hK => ?_) (AllReadyIn.nil)
              · refine stepIn_append_at hrun2 (by with_reducible rfl) rfl _ _ rfl rfl rfl rfl ?_
                refine hK _ _ ?_
                clear hK K
                refine wpAnyIn_ready (rs := [9]) (by kernel_rfl) (by simp) ?_
                refine AllReadyIn.cons rfl (fun K hK => ?_) (AllReadyIn.nil)
                · go_simp
                  refine hK _ _ ?_
                  clear hK K
                  refine wpAnyIn_ready (rs := [10]) (by kernel_rfl) (by simp) ?_
                  refine AllReadyIn.cons rfl (fun K hK => ?_) (AllReadyIn.nil)
                  · go_simp
                    refine hK _ _ ?_
                    clear hK K
                    refine wpAnyIn_done (by kernel_rfl) ?_ _
                    exact HE.out
          · go_simp
            refine hK _ _ ?_
            clear hK K
            refine wpAnyIn_ready (rs := [0, 8]) (by kernel_rfl) (by simp) ?_
            refine AllReadyIn.cons rfl (fun K hK => ?_) (AllReadyIn.cons rfl (fun K hK => ?_) (AllReadyIn.nil))
            · go_simp
              refine hK _ _ ?_
              clear hK K
              refine wpAnyIn_ready (rs := [8]) (by kernel_rfl) (by simp) ?_
              refine AllReadyIn.cons rfl (fun K hK => ?_) (AllReadyIn.nil)
              · refine stepIn_append_at hrun2 (by with_reducible rfl) rfl _ _ rfl rfl rfl rfl ?_
                refine hK _ _ ?_
                clear hK K
                refine wpAnyIn_ready (rs := [9]) (by kernel_rfl) (by simp) ?_
                refine AllReadyIn.cons rfl (fun K hK => ?_) (AllReadyIn.nil)
                · go_simp
                  refine hK _ _ ?_
                  clear hK K
                  refine wpAnyIn_ready (rs := [10]) (by kernel_rfl) (by simp) ?_
                  refine AllReadyIn.cons rfl (fun K hK => ?_) (AllReadyIn.nil)
                  · go_simp
                    refine hK _ _ ?_
                    clear hK K
                    refine wpAnyIn_done (by kernel_rfl) ?_ _
                    exact HE.out
            · refine stepIn_append_at hrun2 (by with_reducible rfl) rfl _ _ rfl rfl rfl rfl ?_
              refine hK _ _ ?_
              clear hK K
              refine wpAnyIn_ready (rs := [0]) (by kernel_rfl) (by simp) ?_
              refine AllReadyIn.cons rfl (fun K hK => ?_) (AllReadyIn.nil)
              · go_simp
                refine hK _ _ ?_
                clear hK K
                refine wpAnyIn_ready (rs := [9]) (by kernel_rfl) (by simp) ?_
                refine AllReadyIn.cons rfl (fun K hK => ?_) (AllReadyIn.nil)
                · go_simp
                  refine hK _ _ ?_
                  clear hK K
                  refine wpAnyIn_ready (rs := [10]) (by kernel_rfl) (by simp) ?_
                  refine AllReadyIn.cons rfl (fun K hK => ?_) (AllReadyIn.nil)
                  · go_simp
                    refine hK _ _ ?_
                    clear hK K
                    refine wpAnyIn_done (by kernel_rfl) ?_ _
                    exact HE.out
    · go_simp
      refine hK _ _ ?_
      clear hK K
      refine wpAnyIn_ready (rs := [0, 2]) (by kernel_rfl) (by simp) ?_
      refine AllReadyIn.cons rfl (fun K hK => ?_) (AllReadyIn.cons rfl (fun K hK => ?_) (AllReadyIn.nil))
      · go_simp
        refine hK _ _ ?_
        clear hK K
        refine wpAnyIn_ready (rs := [2]) (by kernel_rfl) (by simp) ?_
        refine AllReadyIn.cons rfl (fun K hK => ?_) (AllReadyIn.nil)
        · go_simp
          refine hK _ _ ?_
          clear hK K
          refine wpAnyIn_ready (rs := [4]) (by kernel_rfl) (by simp) ?_
          refine AllReadyIn.cons rfl (fun K hK => ?_) (AllReadyIn.nil)
          · go_simp
            refine hK _ _ ?_
            clear hK K
            refine wpAnyIn_ready (rs := [5]) (by kernel_rfl) (by simp) ?_
            refine AllReadyIn.cons rfl (fun K hK => ?_) (AllReadyIn.nil)
            · go_simp
              refine hK _ _ ?_
              clear hK K
              refine wpAnyIn_ready (rs := [8]) (by kernel_rfl) (by simp) ?_
              refine AllReadyIn.cons rfl (fun K hK => ?_) (AllReadyIn.nil)
              · refine stepIn_append_at hrun2 (by with_reducible rfl) rfl _ _ rfl rfl rfl rfl ?_
                refine hK _ _ ?_
                clear hK K
                refine wpAnyIn_ready (rs := [9]) (by kernel_rfl) (by simp) ?_
                refine AllReadyIn.cons rfl (fun K hK => ?_) (AllReadyIn.nil)
                · go_simp
                  refine hK _ _ ?_
                  clear hK K
                  refine wpAnyIn_ready (rs := [10]) (by kernel_rfl) (by simp) ?_
                  refine AllReadyIn.cons rfl (fun K hK => ?_) (AllReadyIn.nil)
                  · go_simp
                    refine hK _ _ ?_
                    clear hK K
                    refine wpAnyIn_done (by kernel_rfl) ?_ _
                    exact HE.out
      · go_simp
        refine hK _ _ ?_
        clear hK K
        refine wpAnyIn_ready (rs := [0, 4]) (by kernel_rfl) (by simp) ?_
        refine AllReadyIn.cons rfl (fun K hK => ?_) (AllReadyIn.cons rfl (fun K hK => ?_) (AllReadyIn.nil))
        · go_simp
          refine hK _ _ ?_
          clear hK K
          refine wpAnyIn_ready (rs := [4]) (by kernel_rfl) (by simp) ?_
          refine AllReadyIn.cons rfl (fun K hK => ?_) (AllReadyIn.nil)
          · go_simp
            refine hK _ _ ?_
            clear hK K
            refine wpAnyIn_ready (rs := [5]) (by kernel_rfl) (by simp) ?_
            refine AllReadyIn.cons rfl (fun K hK => ?_) (AllReadyIn.nil)
            · go_simp
              refine hK _ _ ?_
              clear hK K
              refine wpAnyIn_ready (rs := [8]) (by kernel_rfl) (by simp) ?_
              refine AllReadyIn.cons rfl (fun K hK => ?_) (AllReadyIn.nil)
              · refine stepIn_append_at hrun2 (by with_reducible rfl) rfl _ _ rfl rfl rfl rfl ?_
                refine hK _ _ ?_
                clear hK K
                refine wpAnyIn_ready (rs := [9]) (by kernel_rfl) (by simp) ?_
                refine AllReadyIn.cons rfl (fun K hK => ?_) (AllReadyIn.nil)
                · go_simp
                  refine hK _ _ ?_
                  clear hK K
                  refine wpAnyIn_ready (rs := [10]) (by kernel_rfl) (by simp) ?_
                  refine AllReadyIn.cons rfl (fun K hK => ?_) (AllReadyIn.nil)
                  · go_simp
                    refine hK _ _ ?_
                    clear hK K
                    refine wpAnyIn_done (by kernel_rfl) ?_ _
                    exact HE.out
        · go_simp
          refine hK _ _ ?_
          clear hK K
          refine wpAnyIn_ready (rs := [0, 5]) (by kernel_rfl) (by simp) ?_
          refine AllReadyIn.cons rfl (fun K hK => ?_) (AllReadyIn.cons rfl (fun K hK => ?_) (AllReadyIn.nil))
          · go_simp
            refine hK _ _ ?_
            clear hK K
            refine wpAnyIn_ready (rs := [5]) (by kernel_rfl) (by simp) ?_
            refine AllReadyIn.cons rfl (fun K hK => ?_) (AllReadyIn.nil)
            · go_simp
              refine hK _ _ ?_
              clear hK K
              refine wpAnyIn_ready (rs := [8]) (by kernel_rfl) (by simp) ?_
              refine AllReadyIn.cons rfl (fun K hK => ?_) (AllReadyIn.nil)
              · refine stepIn_append_at hrun2 (by with_reducible rfl) rfl _ _ rfl rfl rfl rfl ?_
                refine hK _ _ ?_
                clear hK K
                refine wpAnyIn_ready (rs := [9]) (by kernel_rfl) (by simp) ?_
                refine AllReadyIn.cons rfl (fun K hK => ?_) (AllReadyIn.nil)
                · go_simp
                  refine hK _ _ ?_
                  clear hK K
                  refine wpAnyIn_ready (rs := [10]) (by kernel_rfl) (by simp) ?_
                  refine AllReadyIn.cons rfl (fun K hK => ?_) (AllReadyIn.nil)
                  · go_simp
                    refine hK _ _ ?_
                    clear hK K
                    refine wpAnyIn_done (by kernel_rfl) ?_ _
                    exact HE.out
          · go_simp
            refine hK _ _ ?_
            clear hK K
            refine wpAnyIn_ready (rs := [0, 8]) (by kernel_rfl) (by simp) ?_
            refine AllReadyIn.cons rfl (fun K hK => ?_) (AllReadyIn.cons rfl (fun K hK => ?_) (AllReadyIn.nil))
            · go_simp
              refine hK _ _ ?_
              clear hK K
              refine wpAnyIn_ready (rs := [8]) (by kernel_rfl) (by simp) ?_
              refine AllReadyIn.cons rfl (fun K hK => ?_) (AllReadyIn.nil)
              · refine stepIn_append_at hrun2 (by with_reducible rfl) rfl _ _ rfl rfl rfl rfl ?_
                refine hK _ _ ?_
                clear hK K
                refine wpAnyIn_ready (rs := [9]) (by kernel_rfl) (by simp) ?_
                refine AllReadyIn.cons rfl (fun K hK => ?_) (AllReadyIn.nil)
                · go_simp
                  refine hK _ _ ?_
                  clear hK K
                  refine wpAnyIn_ready (rs := [10]) (by kernel_rfl) (by simp) ?_
                  refine AllReadyIn.cons rfl (fun K hK => ?_) (AllReadyIn.nil)
                  · go_simp
                    refine hK _ _ ?_
                    clear hK K
                    refine wpAnyIn_done (by kernel_rfl) ?_ _
                    exact HE.out
            · refine stepIn_append_at hrun2 (by with_reducible rfl) rfl _ _ rfl rfl rfl rfl ?_
              refine hK _ _ ?_
              clear hK K
              refine wpAnyIn_ready (rs := [0]) (by kernel_rfl) (by simp) ?_
              refine AllReadyIn.cons rfl (fun K hK => ?_) (AllReadyIn.nil)
              · go_simp
                refine hK _ _ ?_
                clear hK K
                refine wpAnyIn_ready (rs := [9]) (by kernel_rfl) (by simp) ?_
                refine AllReadyIn.cons rfl (fun K hK => ?_) (AllReadyIn.nil)
                · go_simp
                  refine hK _ _ ?_
                  clear hK K
                  refine wpAnyIn_ready (rs := [10]) (by kernel_rfl) (by simp) ?_
                  refine AllReadyIn.cons rfl (fun K hK => ?_) (AllReadyIn.nil)
                  · go_simp
                    refine hK _ _ ?_
                    clear hK K
                    refine wpAnyIn_done (by kernel_rfl) ?_ _
                    exact HE.out
  case done =>
    rintro K F xs Wx hK hFK rfl ⟨R, hp⟩ hKd
    have y2 := (hp.ob.cell 0).trans rfl
    have HE : Hid (PartsAt (Wx.putObj K (.deferred none)) (.slice (some ⟨w.heap.size, 0, none⟩) 8 8) xs ∧ Below w.heap.size w (Wx.putObj K (.deferred none))) := hid (by
      have hcp := chg_putObj Wx K (.deferred none)
      have hKs : ∀ b, b < w.heap.size + 2 → ¬ (fun b => b = K) b := fun b e k => by have e3 : b = K := k; omega
      have oc := hp.oc.chg hcp (hKs _ (by omega))
      have hfl : sTy.flat R = R.map cellOf := by
        clear hp oc
        induction R with
        | nil => rfl
        | cons q r ih => rw [flat_cons, ih]; rfl
      refine ⟨⟨R, hp.len, rAt_own sTy_ok oc (by rw [hfl]) 8 hp.len.symm (by decide), fun i r hr => ?_⟩, hp.below.trans (hcp.below hp.below.size (fun b e => by have e3 : b = K := e; omega))⟩
      obtain ⟨q1, q2, q3, q4⟩ := hp.rows i r hr
      exact ⟨q2, (q1.chg hcp (fun b e k => hFK (by have e3 : b = K := k; rw [← e3, hp.hF]; exact .inr ⟨i, r, hr, e⟩)) (fun b e => by have e3 : b = K := e; omega)).row.rAt⟩)
    clear hp hI0 hseq
    gi_wp2
    refine ⟨by simp, .inl ⟨_, _, rfl, run_takeDeferred hKd, ?_⟩⟩
    exact ⟨_, results_tmp rfl _ _ _, _, _, rfl, HE.out.1, HE.out.2⟩
  case stop =>
    rintro K F pre Wx hK hFK hsp h hKd
    exact h.elim
end Go.Proofs.Ytnbghghkahaenaa
