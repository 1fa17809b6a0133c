import Derived.Test.YtbidglefddmjhaaGreatDoorMq7J
import Derived.Test.YtbidglefddmjhaaGreatDoorWlLoadTJ
/-
  LAYER 3 (wal), plain mathematics: how Open leaves a disk behind a crash, and behind another one.
-/
namespace Go.Proofs.YtbidglefddmjhaaGreatDoor
open Go.RowKit
set_option linter.unusedVariables false
set_option maxRecDepth 100000

theorem ok_tr {s : Dk} (h : s.Ok) (n : List UInt8) (k : Int) : (trL s n k).1.Ok := by
  unfold trL
  split
  · exact Ok_syn (Ok_trunc h n k) n
  · exact Ok_trunc h n k
/-- Open's trim: the disk is whole then, and the log is what was read; or the power goes, and a crash leaves what may be read to the same end. -/
theorem opened_rd {s : Dk} {g : Lg} (hok : s.Ok) (h : Rd s g) {n : List UInt8} (hl : (segsL s.L).getLast? = some n) :
    ((tornR s n).2 = 0) ∨ ((tornR s n).2 = 7 ∧ ∀ ks ns, Rd (crash (tornR s n).1 ks ns) g) := by
  unfold tornR
  by_cases hq : (scanL (dat s n)).2.2 = 0
  · rw [if_pos hq]; exact .inl rfl
  · rw [if_neg hq]
    have hmem := mem_segsL.1 (List.mem_of_getLast? hl)
    have hrise : RiseK AF.key s.L := hok.rise
    have hok2 := ok_tr hok n ((scanL (dat s n)).2.1 : Nat)
    rcases tr_fuse h.good h.full h.fuse hmem.2 (scanL_le (dat s n).length (dat s n) (Nat.le_refl _)).1 with e | ⟨L1, f, d, e, he, hf, hde, hfnd⟩
    · right
      rw [e]
      refine ⟨rfl, fun ks ns => ?_⟩
      have hS : AllS { s with dead := true } := h.full
      rw [crash_full hS]
      have hc : cool { s with fuse := -1, dead := false } = cool s := by
        have := h.good.alive
        unfold cool at *
        simp only at this ⊢
        rw [this]
      exact ⟨by rw [hc]; exact h.good, h.full, by show (-1 : Int) ≤ -1; omega, ⟨h.lie.whole, h.lie.eq, h.lie.ne0⟩⟩
    · rw [he] at hok2 ⊢
      rcases hde with ⟨rfl, rfl⟩ | ⟨rfl, rfl⟩
      · exact .inl rfl
      · refine .inr ⟨rfl, fun ks ns => ?_⟩
        have hO : OneOff s ({ s with L := L1, fuse := f, dead := true } : Dk) n ((dat s n).take (scanL (dat s n)).2.1) := ⟨hfnd⟩
        have hS := hO.full hok2.rise h.full
        rw [crash_full hS]
        have hO2 : OneOff s ({ s with L := L1, fuse := -1, dead := false } : Dk) n ((dat s n).take (scanL (dat s n)).2.1) := ⟨hfnd⟩
        have hok3 : ({ s with L := L1, fuse := -1, dead := false } : Dk).Ok := ⟨hok2.rise, hok2.names, hok2.sync, hok2.many, hok2.room, hok2.most, by show (-1 : Int) ≤ -1; omega, by show (-1 : Int) ≤ _; omega⟩
        exact ⟨hO2.good h.good hok3 rfl hmem.1 (.inl hl) (.inl hmem.2), hS, by show (-1 : Int) ≤ -1; omega, (h.lie.trimmed hrise hok3.rise hl hO2).torn⟩
end Go.Proofs.YtbidglefddmjhaaGreatDoor

