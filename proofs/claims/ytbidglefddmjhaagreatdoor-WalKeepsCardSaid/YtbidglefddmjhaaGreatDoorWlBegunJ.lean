import Derived.Test.YtbidglefddmjhaaGreatDoorWlRefPut2J
import Derived.Test.YtbidglefddmjhaaGreatDoorWlSameJ
/-
  LAYER 3 (wal), the law's package: begun: are these entries what was, and a beginning of what was to come?
-/
namespace Go.Proofs.YtbidglefddmjhaaGreatDoor
open Go.RowKit Go.Maps
set_option linter.unusedVariables false
set_option maxRecDepth 100000

def BgRel (w : World) (L was now : List En) (u i : Value) (wr : World) : Prop := ∃ k : Nat, k ≤ now.length ∧ i = .int .i64 (k : Int) ∧ (∃ B, EntRow wr B u (putEs was (now.take k))) ∧ Below w.heap.size w wr ∧ Hid (∃ j, k ≤ j ∧ j ≤ now.length ∧ L = putEs was (now.take j))
set_option maxHeartbeats 8000000 in
theorem begun_any {w : World} {u v n : Value} {L was now : List En} {B : Nat} (hu : EntsAt w u L) (hv : EntRow w B v was) (hn : EntsAt w n now) (hL : L.length ≤ 9900) (hwl : was.length ≤ 9000) (hnl : now.length ≤ 4) (hc : Consec was) (hi : ∀ e ∈ was, entB e = true ∧ e.In) (hni : ∀ e ∈ now, entB e = true ∧ e.In) (hb : ∃ j, j ≤ now.length ∧ L = putEs was (now.take j)) :
    Calls Tryz.prog 35 #[u, v, n] w fun e w' => e = .returned (.bool true) ∧ Below w.heap.size w w' := by
  have HU := hid hu
  have HN := hid hn
  have HV := hid hv
  have HNi := hid hni
  have HOk := hid (fun k => putEs_ok (l := now.take k) hc hi (fun e he => hni e (List.mem_of_mem_take he)))
  have HLen : Hid (∀ k, (putEs was (now.take k)).length ≤ 9900) := hid (fun k => by
    have h1 := putEs_le (now.take k) was
    have h2 : (now.take k).length ≤ now.length := by rw [List.length_take]; omega
    omega)
  have HB := hid hb
  obtain ⟨ao, cap, rfl, -⟩ := id hu
  obtain ⟨bo, bap, rfl, -, -⟩ := hv.slice
  obtain ⟨co, dap, rfl, -⟩ := id hn
  clear hu hv hn hni hb hc hi
  go_enter Tryz.func35, Tryz.ntmps35
  go_wp2
  go_loopw [1, 7] (BgRel w L was now) (fun _ i _ => now.length + 1 - (intOf i).toNat)
  case atStart =>
    obtain ⟨j, h1, h2⟩ := HB.out
    exact ⟨0, Nat.zero_le _, rfl, ⟨B, by simpa [putEs] using HV.out⟩, Below.refl _ _, hid ⟨j, Nat.zero_le _, h1, h2⟩⟩
  case round =>
    obtain ⟨k, hk, rfl, ⟨B1, hrow⟩, hbw, hj⟩ := hrel
    have HR := hid hrow
    have HBw := hid hbw
    have hkI : (k : Int) ≤ (now.length : Int) := by omega
    have HS := hid (same_any _ _ L (putEs was (now.take k)) wr (by
      obtain ⟨x1, x2, x3, x4⟩ := HU.out
      refine ⟨x1, x2, x3, fun h => ?_⟩
      obtain ⟨g, o, y1, y2, y3⟩ := x4 h
      exact ⟨g, o, y1, by have := hbw.size; omega, fun i hi => by
        obtain ⟨z0, z1, z2, z3⟩ := y3 i hi
        exact ⟨(hbw.cell (p := ⟨g, o + i * 4, none⟩) y2).trans z0, (hbw.cell (p := ⟨g, o + i * 4 + 1, none⟩) y2).trans z1, (hbw.cell (p := ⟨g, o + i * 4 + 2, none⟩) y2).trans z2, (hbw.cell (p := ⟨g, o + i * 4 + 3, none⟩) y2).trans z3⟩⟩) hrow.ents (by omega) (by have := HLen.out k; omega))
    obtain ⟨eo, fap, rfl, -, -⟩ := hrow.slice
    clear hrow hbw
    by_cases hsame : L = putEs was (now.take k)
    · have HS2 : Hid (Calls Tryz.prog 21 #[.slice ao L.length cap, .slice eo (putEs was (now.take k)).length fap] wr fun e w' => e = .returned (.bool true) ∧ Below wr.heap.size wr w') := hid (HS.out.mono (by rintro e w' ⟨he, hb⟩; exact ⟨by rw [he]; simp [hsame], hb⟩))
      clear HS hsame
      generalize (putEs was (now.take k)).length = n1 at *
      go_wp2_with (go_at_call 21; (with_reducible refine HS2.out.mono ?_); rintro e w1 ⟨rfl, hb1⟩)
      go_ret
      exact ⟨rfl, HBw.out.trans (hb1.mono HBw.out.size)⟩
    · have HS2 : Hid (Calls Tryz.prog 21 #[.slice ao L.length cap, .slice eo (putEs was (now.take k)).length fap] wr fun e w' => e = .returned (.bool false) ∧ Below wr.heap.size wr w') := hid (HS.out.mono (by rintro e w' ⟨he, hb⟩; exact ⟨by rw [he]; simp [hsame], hb⟩))
      obtain ⟨j, j1, j2, j3⟩ := hj.out
      have hkn : k < now.length := by
        rcases Nat.eq_or_lt_of_le j1 with e | e
        · exact absurd (e ▸ j3) hsame
        · omega
      have hknI : (k : Int) < (now.length : Int) := by omega
      have HJ : Hid (∃ j, k + 1 ≤ j ∧ j ≤ now.length ∧ L = putEs was (now.take j)) := hid ⟨j, by
        rcases Nat.eq_or_lt_of_le j1 with e | e
        · exact absurd (e ▸ j3) hsame
        · omega, j2, j3⟩
      have hstep : putEs was (now.take (k + 1)) = putE (putEs was (now.take k)) (now[k]'hkn) := by
        rw [List.take_add_one, List.getElem?_eq_getElem hkn]
        exact putEs_snoc _ _ _
      have HSt := hid hstep
      obtain ⟨x1, x2, x3, x4⟩ := HN.out
      simp only [Value.slice.injEq] at x3
      obtain ⟨rfl, -, rfl⟩ := x3
      obtain ⟨g, o, rfl, y2, y3⟩ := x4 (fun e => by rw [e] at hkn; simp at hkn)
      have hcell : ∀ wx, Below wr.heap.size wr wx → wx.cell? ⟨g, o + k * 4, none⟩ = some (.int .i64 (now[k]'hkn).idx) ∧ wx.cell? ⟨g, o + k * 4 + 1, none⟩ = some (.int .i64 (now[k]'hkn).term) ∧ wx.cell? ⟨g, o + k * 4 + 2, none⟩ = some (.int .i64 (now[k]'hkn).kind) ∧ wx.cell? ⟨g, o + k * 4 + 3, none⟩ = some (.string (mk (now[k]'hkn).data)) := fun wx hx => by
        obtain ⟨z0, z1, z2, z3⟩ := y3 k hkn
        have hb := HBw.out.trans (hx.mono HBw.out.size)
        exact ⟨(hb.cell (p := ⟨g, o + k * 4, none⟩) y2).trans z0, (hb.cell (p := ⟨g, o + k * 4 + 1, none⟩) y2).trans z1, (hb.cell (p := ⟨g, o + k * 4 + 2, none⟩) y2).trans z2, (hb.cell (p := ⟨g, o + k * 4 + 3, none⟩) y2).trans z3⟩
      have HCell := hid hcell
      have HPut : Hid (∀ wx, Below wr.heap.size wr wx → Calls Tryz.prog 89 #[.slice eo (putEs was (now.take k)).length fap, .agg #[.int .i64 (now[k]'hkn).idx, .int .i64 (now[k]'hkn).term, .int .i64 (now[k]'hkn).kind, .string (mk (now[k]'hkn).data)]] wx fun e w' => ∃ v' : Value, e = .returned v' ∧ Hid (EntRow w' wx.heap.size v' (putEs was (now.take (k + 1)))) ∧ Below wx.heap.size wx w') := hid (fun wx hx => by
        have h0 := refPut_any (B := B1) (.slice eo (putEs was (now.take k)).length fap) (putEs was (now.take k)) (now[k]'hkn) wx (HR.out.same (fun b hb => hx.block b (World.ownsRow.lt HR.out b hb).2)) (by have := HLen.out k; omega) (HOk.out k).1 (fun e he => ((HOk.out k).2 e he).2) ((HNi.out _ (List.getElem_mem hkn)).2)
        rw [← hstep] at h0
        refine h0.mono ?_
        rintro e w' ⟨v', he, h1, h2⟩
        exact ⟨v', he, hid h1, h2⟩)
      clear HS hsame hstep HSt x4 y3 hcell j1 j2 j3 hj
      generalize now[k]'hkn = x at *
      generalize (putEs was (now.take k)).length = n1 at *
      generalize mk x.data = xd at *
      generalize x.idx = x0 at *
      generalize x.term = x1 at *
      generalize x.kind = x2 at *
      go_wp2_with (first
        | (go_at_call 21; (with_reducible refine HS2.out.mono ?_); rintro e w1 ⟨rfl, hb1⟩; obtain ⟨c0, c1, c2, c3⟩ := HCell.out w1 hb1)
        | (go_at_call 89; (with_reducible refine (HPut.out _ hb1).mono ?_); rintro e w2 ⟨v2, rfl, hr2, hb2⟩))
      go_roundw
      case rel => exact ⟨k + 1, hkn, by go_num, ⟨_, hr2.out⟩, HBw.out.trans ((hb1.trans (hb2.mono hb1.size)).mono HBw.out.size), HJ⟩
      case measure => simp [intOf]; omega
end Go.Proofs.YtbidglefddmjhaaGreatDoor

