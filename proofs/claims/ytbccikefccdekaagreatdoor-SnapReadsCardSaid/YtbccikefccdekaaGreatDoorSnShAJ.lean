import Derived.Test.YtbccikefccdekaaGreatDoorSnLdJ
import Derived.Test.YtbccikefccdekaaGreatDoorSnSameJ
import Derived.Test.YtbccikefccdekaaGreatDoorMq3J
import Derived.Test.YtbccikefccdekaaGreatDoorSnLensJ
/-
  LAYER 4 (snap), the laws' own helpers: small, sameTexts; what shown holds.
-/
namespace Go.Proofs.YtbccikefccdekaaGreatDoor
open Go.RowKit Go.Shelf
attribute [local go_sem] Oper.semAt_some
set_option linter.unusedVariables false
set_option maxRecDepth 100000

def smallB (b : Bs) : Bool := decide (b.vot.length ≤ 20) && decide (b.data.length ≤ 5000)
set_option maxHeartbeats 4000000 in
theorem snSmall_any {w : World} {b : Bs} {vv : Value} (h : ∃ va vc, vv = .slice va b.vot.length vc) : Calls Tryz.prog 7 #[bval b vv] w fun e w' => e = .returned (.bool (smallB b)) ∧ Below w.heap.size w w' := by
  obtain ⟨va, vc, rfl⟩ := h
  have b1 : Below w.heap.size w (w.alloc (.cells #[.int .i64 b.ix, .int .i64 b.tm, .slice va b.vot.length vc, .string (mk b.data)] 24)) := (Below.refl _ _).alloc (Nat.le_refl _) _
  have hs : (mk b.data).size = b.data.length := mk_size _
  dsimp only [bval]
  unfold smallB
  by_cases h1 : b.vot.length ≤ 20
  · have h1' : (b.vot.length : Int) ≤ 20 := by omega
    rw [decide_eq_true h1]
    by_cases h2 : b.data.length ≤ 5000
    · have h2' : ((mk b.data).size : Int) ≤ 5000 := by omega
      rw [decide_eq_true h2]
      clear hs h1 h2
      generalize mk b.data = db at *
      go_enter Tryz.func7, Tryz.ntmps7
      go_wp2
      go_ret
      exact ⟨rfl, b1⟩
    · have h2' : ¬ ((mk b.data).size : Int) ≤ 5000 := by omega
      rw [decide_eq_false h2]
      clear hs h1 h2
      generalize mk b.data = db at *
      go_enter Tryz.func7, Tryz.ntmps7
      go_wp2
      go_ret
      exact ⟨rfl, b1⟩
  · have h1' : ¬ (b.vot.length : Int) ≤ 20 := by omega
    rw [decide_eq_false h1]
    clear hs h1
    generalize mk b.data = db at *
    go_enter Tryz.func7, Tryz.ntmps7
    go_wp2
    go_ret
    exact ⟨rfl, b1⟩

/-- Texts in memory. -/
def TxAt (w : World) (v : Value) (l : List (List UInt8)) : Prop := ∃ ao cap, v = .slice ao l.length cap ∧ ∀ k (hk : k < l.length), ∃ g, ao = some ⟨g, 0, none⟩ ∧ g < w.heap.size ∧ w.cell? ⟨g, k, none⟩ = some (.string (mk l[k]))
theorem tx_names {w : World} {B : Nat} {v : Value} {l : List (List UInt8)} (h : NamesAt w B v l) : TxAt w v l := by
  obtain ⟨ao, cap, rfl⟩ := names_slice h
  refine ⟨ao, cap, rfl, fun k hk => ?_⟩
  obtain ⟨g, cap', hv, -, hlt, -, hc⟩ := names_cell h hk
  simp only [Value.slice.injEq] at hv
  exact ⟨g, hv.1, hlt, hc⟩
theorem tx_one (w : World) (x : List UInt8) : TxAt (w.alloc (.cells #[.string (mk x)] 9)) (.slice (some ⟨w.heap.size, 0, none⟩) 1 1) [x] :=
  ⟨_, 1, rfl, fun k hk => ⟨w.heap.size, rfl, by simp, by
    obtain rfl : k = 0 := by simp at hk; omega
    exact ((own.new w #[.string (mk x)] 9).cell 0).trans rfl⟩⟩
theorem TxAt.later {w w' : World} {v : Value} {l : List (List UInt8)} (h : TxAt w v l) (hb : Below w.heap.size w w') : TxAt w' v l := by
  obtain ⟨ao, cap, rfl, hc⟩ := h
  refine ⟨ao, cap, rfl, fun k hk => ?_⟩
  obtain ⟨g, e, hlt, hx⟩ := hc k hk
  exact ⟨g, e, Nat.lt_of_lt_of_le hlt hb.size, (hb.cell (p := ⟨g, k, none⟩) hlt).trans hx⟩
def TxRel (w : World) (l : List (List UInt8)) (i : Value) (wr : World) : Prop := ∃ k : Nat, k ≤ l.length ∧ i = .int .i64 k ∧ Below w.heap.size w wr
set_option maxHeartbeats 4000000 in
theorem snTexts_any {w : World} {v1 v2 : Value} {l : List (List UInt8)} (h1 : TxAt w v1 l) (h2 : TxAt w v2 l) (hl : l.length ≤ 1000) : Calls Tryz.prog 23 #[v1, v2] w fun e w' => e = .returned (.bool true) ∧ Below w.heap.size w w' := by
  obtain ⟨ao, ac, rfl, ha⟩ := h1
  obtain ⟨bo, bc, rfl, hb⟩ := h2
  have HA := hid ha
  have HB := hid hb
  clear ha hb
  go_enter Tryz.func23, Tryz.ntmps23
  go_wp2
  go_loopw [5] (TxRel w l) (fun i _ => l.length - (intOf i).toNat)
  case atStart => exact ⟨0, Nat.zero_le _, rfl, Below.refl _ _⟩
  case round =>
    obtain ⟨k, hk, rfl, hbw⟩ := hrel
    by_cases hlt : k < l.length
    · obtain ⟨g1, rfl, hg1, hc1⟩ := HA.out k hlt
      obtain ⟨g2, rfl, hg2, hc2⟩ := HB.out k hlt
      have c1 := (hbw.cell (p := ⟨g1, k, none⟩) hg1).trans hc1
      have c2 := (hbw.cell (p := ⟨g2, k, none⟩) hg2).trans hc2
      clear hc1 hc2
      have hkI : (k : Int) < (l.length : Int) := by omega
      generalize mk l[k] = x at *
      go_wp2
      go_quiet (fail)
      go_wp2
      go_roundw
      case rel => exact ⟨k + 1, by omega, by go_num, below_drew hbw _⟩
      case measure => simp [intOf]; omega
    · obtain rfl : k = l.length := by omega
      go_wp2
      go_ret
      exact ⟨rfl, hbw⟩

/-! ### the chapter's own example -/
def shb (ix : Int) : Bs := ⟨ix, 1, [1, 2, 3], [97, 98, 99]⟩
def shBad : Bs := ⟨1, 0, [2, 1], []⟩
theorem sh_right {ix : Int} (h : ix = 3 ∨ ix = 7) : rightS (shb ix) = true := by rcases h with rfl | rfl <;> decide
theorem sh_bad : rightS shBad = false := by decide
theorem sh_len {ix : Int} (h : ix = 3 ∨ ix = 7) : (packS (shb ix)).length ≤ 1000 := by
  have h1 := headS_len (sh_right h)
  have h2 : (shb ix).data.length = 3 := rfl
  rw [packS_len, h2]
  omega
theorem sh_name3 : Sn.segN 3 = [112, 51] := by
  rw [show (3 : Int) = ((3 : Nat) : Int) from rfl, Sn.segN_nat, Lib.decDigits_one (by omega)]; rfl
theorem sh_name7 : Sn.segN 7 = [112, 55] := by
  rw [show (7 : Int) = ((7 : Nat) : Int) from rfl, Sn.segN_nat, Lib.decDigits_one (by omega)]; rfl
theorem sh_math : ∃ s1 s2, saveS (newD 10000) (shb 3) = (s1, 0) ∧ s1.L.map AF.name = [[112, 51]] ∧ loadD s1 = some (shb 3) ∧ deadK s1 = 0 ∧ saveS s1 (shb 7) = (s2, 0) ∧ s2.L.map AF.name = [[112, 55]] ∧ saveS s2 shBad = (s2, 1) := by
  have r3 := sh_right (.inl rfl : (3 : Int) = 3 ∨ (3 : Int) = 7)
  have r7 := sh_right (.inr rfl : (7 : Int) = 3 ∨ (7 : Int) = 7)
  have l3 := sh_len (.inl rfl : (3 : Int) = 3 ∨ (3 : Int) = 7)
  have l7 := sh_len (.inr rfl : (7 : Int) = 3 ∨ (7 : Int) = 7)
  have h0 : Hs (newD 10000) none none := ⟨Ok_new (by omega) (by omega), rfl, rfl⟩
  have o0 : oRight none := fun b e => by cases e
  have o1 : oRight (some (shb 3)) := fun b e => by cases e; exact r3
  rcases save_cases h0 o0 r3 (by show ((0 : Nat) + (packS (shb 3)).length : Int) ≤ 10000; omega) with ⟨-, k, -⟩ | ⟨k1, k2, k3, k4⟩
  · exact absurd rfl k
  rcases save_cases k2 o1 r7 (by rw [k3]; show ((packS (shb 3)).length + (packS (shb 7)).length : Int) ≤ 10000; omega) with ⟨-, k, -⟩ | ⟨m1, m2, m3, m4⟩
  · exact absurd (k4 rfl) k
  have e1 : (saveS (newD 10000) (shb 3)).1.L = [snF (shb 3)] := by have := k2.L; simpa [heldL] using this
  have e2 : (saveS (saveS (newD 10000) (shb 3)).1 (shb 7)).1.L = [snF (shb 7)] := by have := m2.L; simpa [heldL] using this
  refine ⟨_, _, Prod.ext rfl k1, ?_, ?_, ?_, Prod.ext rfl m1, ?_, save_bad sh_bad⟩
  · rw [e1]; show [Sn.segN 3] = _; rw [sh_name3]
  · unfold loadD
    rw [if_neg (by rw [k2.dead]; simp)]
    exact load_held o1 k2.dead (.inl e1)
  · unfold deadK
    rw [if_neg (by rw [k2.dead]; simp)]
  · rw [e2]; show [Sn.segN 7] = _; rw [sh_name7]
end Go.Proofs.YtbccikefccdekaaGreatDoor

