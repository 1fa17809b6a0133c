import Derived.Test.YtbidglefddmjhaaGreatDoorMq5J
/-
  LAYER 3 (wal): the segment that is written to.
-/
namespace Go.Proofs.YtbidglefddmjhaaGreatDoor
open Go.RowKit Go.Maps
set_option linter.unusedVariables false
set_option maxRecDepth 100000

theorem segsL_perm (L : List AF) : (segsL L).Perm ((L.map AF.name).filter isSeg) := List.mergeSort_perm _ _
theorem segsL_in {s : Dk} (h : s.Ok) : (segsL s.L).length ≤ 40 ∧ ∀ x ∈ segsL s.L, x.length ≤ 24 ∧ isSeg x = true ∧ x ∈ s.L.map AF.name := by
  have hn := names_in h
  refine ⟨by rw [(segsL_perm s.L).length_eq]; have := List.length_filter_le isSeg (s.L.map AF.name); omega, fun x hx => ?_⟩
  have h1 := List.mem_filter.1 ((segsL_perm s.L).mem_iff.1 hx)
  exact ⟨hn.2 x h1.1, h1.2, h1.1⟩
theorem AtDisk.below {w w' : World} {S : Nat → Prop} {p a : Nat} (h : AtDisk w S p a) (hb : Below w.heap.size w w') : AtDisk w' S p a := by
  obtain ⟨h1, h2, h3⟩ := h
  have hs := hb.size
  refine ⟨h1, by omega, ?_⟩
  rw [← h3]
  unfold World.cell?
  rw [hb.block p h2]
theorem rd_len {s : Dk} (h : s.Ok) (n : List UInt8) : (rd s n).1.length ≤ 10000000 := by
  have h1 := h.room
  have h2 := h.most
  unfold rd
  split
  · simp
  · split
    · simp
    · rename_i f hf
      have := sz_mem (fndK_some hf).1
      show f.data.length ≤ _
      omega
/-- The last segment: its name, how many bytes it has, and whether it can be read. -/
def lastL (s : Dk) : List UInt8 × Nat × Int := match (segsL s.L).getLast? with | none => (segN 1, 0, 0) | some n => (n, (rd s n).1.length, (rd s n).2)
def LastPost (w : World) (r : List UInt8 × Nat × Int) (e : Ending) (w' : World) : Prop := e = .returned (.tuple #[.string (mk r.1), .int .i64 (r.2.1 : Int), .int .i64 r.2.2]) ∧ Below w.heap.size w w'
set_option maxHeartbeats 4000000 in
theorem last_any {w : World} {S : Nat → Prop} {p a : Nat} {s : Dk} {B0 : Nat} (h : DiskIs w S a s) (hp : AtDisk w S p a) (hg : Glob w B0) (hB0 : B0 ≤ w.heap.size) :
    Calls Tryz.prog 111 #[.pointer (some ⟨p, 0, none⟩)] w (LastPost w (lastL s)) := by
  have hok : s.Ok := by obtain ⟨mb, F, h⟩ := h; exact h.ok
  have hin := segsL_in hok
  have HS := hid (segments_any h hp.2.2 hg hB0)
  cases hl : segsL s.L with
  | nil =>
    have HN := hid (fun w1 (hb : Below w.heap.size w w1) => segName_any 1 w1 (hg.below hb hB0) ⟨by omega, by omega⟩)
    have hz : lastL s = (segN 1, 0, 0) := by unfold lastL; rw [hl]; rfl
    rw [hz]
    have HL := hid hl
    clear h hp hg hok hin hz
    go_enter Tryz.func111, Tryz.ntmps111
    go_wp2_with (first
      | (go_at_call 19; (with_reducible refine HS.out.mono ?_); rintro e w1 ⟨v1, rfl, hv1, hb1⟩; rw [HL.out] at hv1; obtain ⟨a1, cap1, rfl⟩ := names_slice hv1; clear hv1)
      | (go_at_call 75; (with_reducible refine (HN.out _ hb1).mono ?_); rintro e w2 ⟨rfl, hb2⟩))
    go_ret3
    exact ⟨rfl, hb1.trans (hb2.mono hb1.size)⟩
  | cons n0 t0 =>
    obtain ⟨m, n, hm, hn⟩ : ∃ m n, (segsL s.L).length = m + 1 ∧ (segsL s.L)[m]? = some n := ⟨t0.length, (segsL s.L)[t0.length]'(by rw [hl]; simp), by rw [hl]; rfl, List.getElem?_eq_getElem _⟩
    have hmI : (m : Int) ≤ 40 := by have := hin.1; omega
    have hlast : (segsL s.L).getLast? = some n := by rw [List.getLast?_eq_getElem?, ← hn, hm, Nat.add_sub_cancel]
    have hnm := (hin.2 n (List.mem_of_getElem? hn)).1
    have hz : lastL s = (n, (rd s n).1.length, (rd s n).2) := by unfold lastL; rw [hlast]
    rw [hz]
    have hcell : ∀ w1 v1, NamesAt w1 w.heap.size v1 (segsL s.L) → ∃ g cap, v1 = .slice (some ⟨g, 0, none⟩) (m + 1) cap ∧ w1.cell? ⟨g, m, none⟩ = some (.string (mk n)) := fun w1 v1 hv => by
      obtain ⟨g, cap, h1, _, _, _, h2⟩ := names_cell hv (j := m) (by omega)
      rw [(List.getElem?_eq_some_iff.1 hn).2] at h2
      exact ⟨g, cap, by rw [h1, hm], h2⟩
    have HCell := hid hcell
    have HR := hid (fun w1 (hb : Below w.heap.size w w1) => show Calls Tryz.prog 64 #[.pointer (some ⟨a, 0, none⟩), .string (mk n)] w1 (fun e w' => e = .returned (ReadV (rd s n)) ∧ w1 = w') by
      obtain ⟨mb, F, h1⟩ := h.below hb
      exact read_any h1 (mk n) (by rw [mk_size]; unfold maxLen; omega))
    have HP := hid (fun w1 (hb : Below w.heap.size w w1) => (hp.below hb).2.2)
    have hlen := rd_len hok n
    have hW1 : IntKind.i64.wrap ((m : Int) + 1 - 1) = (m : Int) := by rw [show (m : Int) + 1 - 1 = m by omega]; exact IntWalk.i64_in _ (by omega)
    unfold LastPost
    simp only
    rw [← mk_size] at hlen ⊢
    unfold ReadV at HR
    clear h hp hg hok hin hz hl hm hlast hnm hcell hn
    unfold SegsPost at HS
    generalize (rd s n).2 = k at *
    generalize mk (rd s n).1 = d at *
    generalize segsL s.L = L at *
    have hW2 : IntKind.i64.wrap (d.size : Int) = (d.size : Int) := IntWalk.i64_in _ (by omega)
    go_enter Tryz.func111, Tryz.ntmps111
    go_wp2_with (first
      | (go_at_call 19; (with_reducible refine HS.out.mono ?_); rintro e w1 ⟨v1, rfl, hv1, hb1⟩; obtain ⟨g1, cap1, rfl, k1⟩ := HCell.out _ _ hv1; have hp1 := HP.out _ hb1; clear hv1)
      | (go_at_call 64; (with_reducible refine (HR.out _ hb1).mono ?_); rintro e w2 ⟨rfl, rfl⟩))
    go_ret3
    exact ⟨rfl, hb1⟩
end Go.Proofs.YtbidglefddmjhaaGreatDoor

