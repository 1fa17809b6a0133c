import Derived.Test.YtbidglefddmjhaaGreatDoorWlSortJ
/-
  LAYER 3 (wal): Segments.
-/
namespace Go.Proofs.YtbidglefddmjhaaGreatDoor
open Go.RowKit Go.Maps
set_option linter.unusedVariables false
set_option maxRecDepth 100000

/-- The names of a disk's segments, by rising numbers. -/
def segsL (L : List AF) : List (List UInt8) := sortSeg ((L.map AF.name).filter isSeg)
def SegsPost (w : World) (s : Dk) (e : Ending) (w' : World) : Prop := ∃ v, e = .returned v ∧ NamesAt w' w.heap.size v (segsL s.L) ∧ Below w.heap.size w w'
theorem names_in {s : Dk} (h : s.Ok) : (s.L.map AF.name).length ≤ 40 ∧ ∀ x ∈ s.L.map AF.name, x.length ≤ 24 := by
  refine ⟨by simpa using h.many, fun x hx => ?_⟩
  obtain ⟨f, hf, rfl⟩ := List.mem_map.1 hx
  have h1 := h.names f hf
  unfold isName at h1
  simp at h1
  omega
set_option maxHeartbeats 2000000 in
theorem segments_any {w : World} {S : Nat → Prop} {a p : Nat} {s : Dk} {B0 : Nat} (hd : DiskIs w S a s) (hc : w.cell? ⟨p, 0, none⟩ = some (.pointer (some ⟨a, 0, none⟩))) (hg : Glob w B0) (hB0 : B0 ≤ w.heap.size) :
    Calls Tryz.prog 19 #[.pointer (some ⟨p, 0, none⟩)] w (SegsPost w s) := by
  obtain ⟨mb, F, hr⟩ := hd
  have hn := names_in hr.ok
  have HL := hid (list_any hr)
  have HD := hid (fun v1 w1 (hv : NamesAt w1 w.heap.size v1 (s.L.map AF.name)) (hb : Below w.heap.size w w1) => deleteFunc_any v1 (s.L.map AF.name) w1 (hg.below hb hB0) hB0 hb.size hv (fun x hx => by have := hn.2 x hx; omega) (by omega))
  have hfl : ((s.L.map AF.name).filter isSeg).length ≤ 1000 := by have := List.length_filter_le isSeg (s.L.map AF.name); omega
  have HS := hid (fun v2 w2 (hv : NamesAt w2 w.heap.size v2 ((s.L.map AF.name).filter isSeg)) (hb : Below w.heap.size w w2) => sortFunc_any v2 ((s.L.map AF.name).filter isSeg) (fun x hx => (List.mem_filter.1 hx).2) w2 (hg.below hb hB0) hB0 hb.size hv hfl)
  have hfin : ∀ v w2 w3, NamesAt w3 w.heap.size v (segsL s.L) → Below w.heap.size w w2 → (∀ b, v.ownBlock = some b → w.heap.size ≤ b) → Chg (fun b => v.ownBlock = some b) w2 w3 → SegsPost w s (.returned v) w3 := fun v w2 w3 h1 h2 h3 h4 => ⟨v, rfl, h1, h2.trans (h4.below h2.size h3)⟩
  have HF := hid hfin
  unfold segsL at HF
  clear hr hg hn hfl hfin
  generalize (s.L.map AF.name) = names at *
  go_enter Tryz.func19, Tryz.ntmps19
  go_wp2_with (first
    | (go_at_call 59; (with_reducible refine HL.out.mono ?_); rintro e w1 ⟨v1, rfl, hv1, hb1⟩; have HV1 := hid hv1; obtain ⟨a1, cap1, rfl⟩ := names_slice hv1; clear hv1)
    | (go_at_call 58; (with_reducible refine (HD.out _ _ HV1.out hb1).mono ?_); rintro e w2 ⟨v2, rfl, hv2, hc2, hs2⟩; have HV2 := hid hv2; have HC2 := hid hc2; have HS2 := hid hs2; obtain ⟨a2, cap2, rfl⟩ := names_slice hv2; clear hv2 hc2 hs2; have hb2 := hb1.trans (HC2.out.below hb1.size (fun b hb => (World.ownsRow.lt HV1.out b hb).1)))
    | (go_at_call 61; (with_reducible refine (HS.out _ _ HV2.out hb2).mono ?_); rintro e w3 ⟨rfl, hv3, hc3⟩; have HV3 := hid hv3; have HC3 := hid hc3; clear hv3 hc3))
  go_ret
  exact HF.out _ _ _ HV3.out hb2 (fun b hb => (World.ownsRow.lt HV2.out b hb).1) HC3.out
end Go.Proofs.YtbidglefddmjhaaGreatDoor

