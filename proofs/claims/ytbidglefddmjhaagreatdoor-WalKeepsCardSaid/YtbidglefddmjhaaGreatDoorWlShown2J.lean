import Derived.Test.YtbidglefddmjhaaGreatDoorWlShownJ
import Derived.Test.YtbidglefddmjhaaGreatDoorMqdJ
import Derived.Deep.RegionHeld3
/-
  LAYER 3 (wal), the laws' own helpers: shown.
-/
namespace Go.Proofs.YtbidglefddmjhaaGreatDoor
open Go.RowKit Go.Maps
set_option linter.unusedVariables false
set_option maxRecDepth 100000

theorem ents_lit {wk : World} {l : List En} {cs : Array Value} (hcs : cs = (flatE l).toArray) (n : Nat) (hn : n = l.length) : EntsAt (wk.alloc (.cells cs 95)) (.slice (some ⟨wk.heap.size, 0, none⟩) n n) l := by
  subst hcs hn
  have ho := own.new wk (flatE l).toArray 95
  refine ⟨_, _, rfl, fun _ => ⟨wk.heap.size, 0, rfl, by simp, fun k hk => ?_⟩⟩
  have hc : ∀ j, j < 4 → (wk.alloc (.cells (flatE l).toArray 95)).cell? ⟨wk.heap.size, 0 + k * 4 + j, none⟩ = (ecells l[k])[j]? := fun j hj => by
    rw [ho.cell, Nat.zero_add]
    have := flatE_get (L := l) hk hj
    simpa using this
  exact ⟨(hc 0 (by omega)).trans rfl, (hc 1 (by omega)).trans rfl, (hc 2 (by omega)).trans rfl, (hc 3 (by omega)).trans rfl⟩
theorem Sh.saveLit {W w7 : World} {T : Nat → Prop} {p a H B0 k : Nat} {s : Dk} {g : Lg} (h : Sh W w7 T p a H B0 k s g) (hk : k ≤ 20) (l : List En) (cs : Array Value) (hcs : cs = (flatE l).toArray) (n : Nat) (hn : n = l.length) (hl : 1 ≤ l.length ∧ l.length ≤ 2) (hin : ∀ e ∈ l, e.In ∧ e.data.length ≤ 10) (hall : l.all entB = true)
    {g' : Lg} (hg' : (⟨h12, putEs g.L l⟩ : Lg) = g') (wk : World) (hb : Below w7.heap.size w7 wk) :
    Calls Tryz.prog 48 #[.pointer (some ⟨p, 0, none⟩), .agg #[.int .i64 1, .int .i64 2], .slice (some ⟨wk.heap.size, 0, none⟩) n n] (wk.alloc (.cells cs 95)) fun e wy => e = .returned (.int .i64 0) ∧ (wy.cell? ⟨H, 0, none⟩ = some (.int .i64 1) ∧ wy.cell? ⟨H, 1, none⟩ = some (.int .i64 2)) ∧ ∃ T' s', Sh W wy T' p a H B0 (k + 1) s' g' ∧ Keeps w7 T wy T' := by
  have hb2 : Below w7.heap.size w7 (wk.alloc (.cells cs 95)) := hb.alloc hb.size _
  subst hg'
  refine ((h.later hb2).save hk _ l (ents_lit hcs n hn) (fun g0 o m c e hT => ?_) hl hin hall).mono ?_
  · simp only [Value.slice.injEq, Option.some.injEq, Addr.mk.injEq] at e
    have h1 := h.log.lt g0 hT
    have h2 := hb.size
    omega
  · rintro e wy ⟨he, T', s', hs, hkp⟩
    refine ⟨he, ⟨(hs.box.cell 0).trans rfl, (hs.box.cell 1).trans rfl⟩, T', s', hs, by have := hkp.1; have := hb2.size; omega, fun b hb3 hT => ?_⟩
    have h1 := hkp.2 b (by have := hb2.size; omega) hT
    exact ⟨h1.1.trans (hb2.block b hb3), h1.2⟩
theorem same_lit {wk : World} {u : Value} {L l : List En} (hu : EntsAt wk u L) (hLl : L = l) {cs : Array Value} (hcs : cs = (flatE l).toArray) (n : Nat) (hn : n = l.length) (hl : l.length ≤ 100) :
    Calls Tryz.prog 21 #[u, .slice (some ⟨wk.heap.size, 0, none⟩) n n] (wk.alloc (.cells cs 95)) fun e w' => e = .returned (.bool true) ∧ Below wk.heap.size wk w' := by
  subst hLl
  have hb : Below wk.heap.size wk (wk.alloc (.cells cs 95)) := (Below.refl _ _).alloc (Nat.le_refl _) _
  refine (same_any u _ L L _ (hu.below hb) (ents_lit hcs n hn) (by omega) (by omega)).mono ?_
  rintro e w' ⟨he, hb2⟩
  exact ⟨by rw [he]; simp, hb.trans (hb2.mono hb.size)⟩
theorem EntRow.keeps {wx wy : World} {B : Nat} {v : Value} {L : List En} {T T' : Nat → Prop} (hr : EntRow wx B v L) (hT : ∀ b, T b → b < B) (hk : Keeps wx T wy T') : EntRow wy B v L :=
  hr.same (fun b hb => (hk.2 b (World.ownsRow.lt hr b hb).2 (fun h => by have h1 := hT b h; have h2 := (World.ownsRow.lt hr b hb).1; omega)).1)
theorem Sh.cells {W wx : World} {T : Nat → Prop} {p a H B0 k : Nat} {s : Dk} {g : Lg} (h : Sh W wx T p a H B0 k s g) : wx.cell? ⟨H, 0, none⟩ = some (.int .i64 1) ∧ wx.cell? ⟨H, 1, none⟩ = some (.int .i64 2) := ⟨(h.box.cell 0).trans rfl, (h.box.cell 1).trans rfl⟩
theorem Sh.hard {W wx : World} {T : Nat → Prop} {p a H B0 k : Nat} {s : Dk} {L : List En} (h : Sh W wx T p a H B0 k s ⟨h12, L⟩) : Calls Tryz.prog 20 #[.pointer (some ⟨p, 0, none⟩)] wx fun e w' => e = .returned (.agg #[.int .i64 1, .int .i64 2]) ∧ Below wx.heap.size wx w' := hard_any h.log
def ea : En := ⟨1, 1, 2, [97]⟩
def eb : En := ⟨2, 1, 2, [98]⟩
def ec : En := ⟨2, 1, 2, [99]⟩
def ex : En := ⟨7, 2, 2, [120]⟩
theorem en_in {e : En} (h : e = ea ∨ e = eb ∨ e = ec ∨ e = ex) : e.In ∧ e.data.length ≤ 10 := by
  rcases h with rfl | rfl | rfl | rfl <;> exact ⟨⟨⟨by decide, by decide⟩, ⟨by decide, by decide⟩, ⟨by decide, by decide⟩⟩, by decide⟩
theorem en_list {l : List En} (h : l.all (fun e => decide (e = ea ∨ e = eb ∨ e = ec ∨ e = ex)) = true) : ∀ e ∈ l, e.In ∧ e.data.length ≤ 10 := fun e he => en_in (of_decide_eq_true (List.all_eq_true.1 h e he))
theorem seg_w1 : mk (segN 1) = ⟨#[119, 49]⟩ := by
  rw [show (1 : Int) = ((1 : Nat) : Int) from rfl, segN_nat, Lib.decDigits_one (by omega)]; rfl
set_option maxHeartbeats 16000000 in
theorem shown3_any (w : World) {B0 : Nat} (hg : Glob w B0) (hB0 : B0 ≤ w.heap.size) :
    Calls Tryz.prog 11 #[] w fun e w' => e = .returned (.bool true) ∧ Below w.heap.size w w' := by
  obtain ⟨k2, kg, km⟩ := open0_good (m := 10000) (by omega) (by omega)
  obtain ⟨kn, kz⟩ := open0_names 10000 (by omega)
  have HN := hid (new_ok 10000 w (by omega) (by omega))
  have HO := hid (fun wx S a (hx : Below w.heap.size w wx) (hD : DiskIs wx S a (newD 10000)) => open0_any hD (hg.below hx hB0) (by have := hx.size; omega) (by rw [show (newD 10000).L = [] from rfl, segs_nil]) k2)
  have HG := hid hg
  have HB0 := hid hB0
  have HKg := hid kg
  have HKm := hid km
  have HKn := hid kn
  have HKz := hid kz
  have HSegs := hid (fun wx T p a (hb : Below w.heap.size w wx) (hL : LogAt wx T p a (open0 (newD 10000)).1 g0) => (show Calls Tryz.prog 19 #[.pointer (some ⟨p, 0, none⟩)] wx (fun e w' => ∃ g cap, e = .returned (.slice (some ⟨g, 0, none⟩) 1 cap) ∧ w'.cell? ⟨g, 0, none⟩ = some (.string ⟨#[119, 49]⟩) ∧ Below wx.heap.size wx w') from by
    refine (hL.run.reads fun S h1 h2 => segments_any h1 h2.2.2 (hg.below hb hB0) (by have := hb.size; omega)).mono ?_
    rintro e w' ⟨v, rfl, hv, hb2⟩
    rw [kn] at hv
    obtain ⟨g, cap, hgv, _, _, _, hc⟩ := names_cell hv (j := 0) (by simp)
    refine ⟨g, cap, by rw [hgv]; rfl, ?_, hb2⟩
    rw [← seg_w1]; exact hc))
  have HHard0 := hid (fun wx T p a (hL : LogAt wx T p a (open0 (newD 10000)).1 g0) => (show Calls Tryz.prog 20 #[.pointer (some ⟨p, 0, none⟩)] wx (fun e w' => e = .returned (.agg #[.int .i64 0, .int .i64 0]) ∧ Below wx.heap.size wx w') from hard_any hL))
  have HEn := hid (fun i t d wx => entry3_any i t d wx)
  clear hg hB0 k2 kg km kn kz
  generalize (open0 (newD 10000)).1 = s at *
  generalize newD 10000 = s0 at *
  go_enter Tryz.func11, Tryz.ntmps11
  go_wp2_with (first
    | (go_at_call 25; (with_reducible refine HN.out.mono ?_); rintro e w1 ⟨a, S1, rfl, hD1, hS1, hb1⟩; have HD1 := hid hD1; have HS1 := hid hS1; clear hD1 hS1)
    | (go_at_call 29; (with_reducible refine (HO.out _ _ _ hb1 HD1.out).mono ?_); rintro e w2 ⟨p, T, rfl, hL2, hT2, hc2, hp2⟩; have HL := hid hL2; have HT2 := hid hT2; have hbw := hb1.trans (hc2.below hb1.size (fun b hb => HS1.out b hb)); clear hL2 hT2 hc2 hp2)
    | (go_at_call 19; (with_reducible refine (HSegs.out _ _ _ _ hbw HL.out).mono ?_); rintro e w3 ⟨g3, cap3, rfl, hc3, hb3⟩; have HL := hid (HL.out.below hb3); have hbw := hbw.trans (hb3.mono hbw.size); clear hb3)
    | (go_at_call 20; (with_reducible refine (HHard0.out _ _ _ _ HL.out).mono ?_); rintro e w4 ⟨rfl, hb4⟩; have HL := hid (HL.out.below hb4); have hbw := hbw.trans (hb4.mono hbw.size); clear hb4))
  obtain ⟨w7, H, HSh, hw7, hH⟩ : ∃ w7 H, Hid (Sh w w7 T p a H B0 1 s g0) ∧ w4.alloc (.cells #[.int .i64 1, .int .i64 2] 50) = w7 ∧ w4.heap.size = H := by
    have hb5 : Below w4.heap.size w4 (w4.alloc (.cells #[.int .i64 1, .int .i64 2] 50)) := (Below.refl _ _).alloc (Nat.le_refl _) _
    have hw5 := hbw.trans (hb5.mono hbw.size)
    refine ⟨_, _, hid ⟨HL.out.below hb5, HKg.out, HKm.out, by have := HKz.out; omega, own.new w4 _ _, fun e => by have := HL.out.lt _ e; omega, fun b hb => ?_, HG.out.below hw5 HB0.out, HB0.out, hw5, by simp [g0]⟩, rfl, rfl⟩
    rcases HT2.out b hb with h | h
    · exact HS1.out b h
    · have := hb1.size; omega
  rw [hw7, hH]
  clear hw7 hH HL hbw HT2 HKg HKm HKn HKz HHard0 HSegs HO HN HD1 HS1 hb1
  have HX := hid (fun wx (hx : Below w7.heap.size w7 wx) => (HSh.out.later hx).cells)
  have HSv := hid (HSh.out.saveLit (by omega) [ea, eb] #[.int .i64 1, .int .i64 1, .int .i64 2, .string ⟨#[97]⟩, .int .i64 2, .int .i64 1, .int .i64 2, .string ⟨#[98]⟩] rfl 2 rfl ⟨by decide, by decide⟩ (en_list (by decide)) (by decide) (g' := ⟨h12, [ea, eb]⟩) (by show (⟨h12, putEs [] [ea, eb]⟩ : Lg) = _; rw [show putEs [] [ea, eb] = [ea, eb] from by decide]))
  have hbk : Below w7.heap.size w7 w7.drew := Below.drew (Below.refl _ _)
  have x0 := HSh.out.cells.1
  have x1 := HSh.out.cells.2
  go_region_held3 (fun wx => wx.cell? ⟨H, 0, none⟩ = some (.int .i64 1) ∧ wx.cell? ⟨H, 1, none⟩ = some (.int .i64 2))
    (first | (with_reducible exact HX.out _ hbk) | (with_reducible exact HX.out _ (Below.alloc hbk (Below.size hbk) _)) | (with_reducible exact hS8))
    (first
      | (go_at_call 49; (with_reducible refine (HEn.out _ _ _ _).mono ?_); rintro e wk ⟨rfl, hbn⟩; have hbk := hbk.trans (hbn.mono hbk.size); clear hbn)
      | (go_at_call 48; (with_reducible refine (HSv.out _ hbk).mono ?_); rintro e w8 ⟨rfl, hS8, T8, s8, hsh8, hk8⟩; have HSh := hid hsh8; clear hsh8 hk8))
  all_goals
    clear HX HSv hbk hS8 x0 x1
    go_wp2
    have HX := hid (fun wx (hx : Below w8.heap.size w8 wx) => (HSh.out.later hx).cells)
    have HSv := hid (HSh.out.saveLit (by omega) [ec] #[.int .i64 2, .int .i64 1, .int .i64 2, .string ⟨#[99]⟩] rfl 1 rfl ⟨by decide, by decide⟩ (en_list (by decide)) (by decide) (g' := ⟨h12, [ea, ec]⟩) (by show (⟨h12, putEs [ea, eb] [ec]⟩ : Lg) = _; rw [show putEs [ea, eb] [ec] = [ea, ec] from by decide]))
    have hbk : Below w8.heap.size w8 w8.drew := Below.drew (Below.refl _ _)
    have x0 := HSh.out.cells.1
    have x1 := HSh.out.cells.2
    go_region_held3 (fun wx => wx.cell? ⟨H, 0, none⟩ = some (.int .i64 1) ∧ wx.cell? ⟨H, 1, none⟩ = some (.int .i64 2))
      (first | (with_reducible exact HX.out _ hbk) | (with_reducible exact HX.out _ (Below.alloc hbk (Below.size hbk) _)) | (with_reducible exact hS8))
      (first
        | (go_at_call 49; (with_reducible refine (HEn.out _ _ _ _).mono ?_); rintro e wk ⟨rfl, hbn⟩; have hbk := hbk.trans (hbn.mono hbk.size); clear hbn)
        | (go_at_call 48; (with_reducible refine (HSv.out _ hbk).mono ?_); rintro e w8 ⟨rfl, hS8, T8, s8, hsh8, hk8⟩; have HSh := hid hsh8; clear hsh8 hk8))
    all_goals
      clear HX HSv hbk hS8 x0 x1
      go_wp2_with (go_at_call 22; (with_reducible refine (entries_any HSh.out.log).mono ?_); rintro e w10 ⟨v1, rfl, hv1, hb10⟩; obtain ⟨ao1, cap1, hvs, -, -⟩ := hv1.slice; have hvs : v1 = .slice ao1 2 cap1 := hvs; subst hvs; have HLt1 := hid HSh.out.log.lt; have HV1 := hid hv1; have HSh := hid (HSh.out.later hb10); clear hv1 hb10)
      have HX := hid (fun wx (hx : Below w10.heap.size w10 wx) => (HSh.out.later hx).cells)
      have hbk : Below w10.heap.size w10 w10.drew := Below.drew (Below.refl _ _)
      have x0 := HSh.out.cells.1
      have x1 := HSh.out.cells.2
      have HSm := hid (fun wk (hb : Below w10.heap.size w10 wk) => same_lit (l := [ea, ec]) ((HV1.out.ents).below hb) rfl (cs := #[.int .i64 1, .int .i64 1, .int .i64 2, .string ⟨#[97]⟩, .int .i64 2, .int .i64 1, .int .i64 2, .string ⟨#[99]⟩]) rfl 2 rfl (by decide))
      have HHd := hid (fun wk (hb : Below w10.heap.size w10 wk) => (HSh.out.later hb).hard)
      go_region_held3 (fun wx => wx.cell? ⟨H, 0, none⟩ = some (.int .i64 1) ∧ wx.cell? ⟨H, 1, none⟩ = some (.int .i64 2))
        (first | (with_reducible exact HX.out _ hbk) | (with_reducible exact HX.out _ (Below.alloc hbk (Below.size hbk) _)) | (with_reducible exact hS8))
        (first
          | (go_at_call 49; (with_reducible refine (HEn.out _ _ _ _).mono ?_); rintro e wk ⟨rfl, hbn⟩; have hbk := hbk.trans (hbn.mono hbk.size); clear hbn)
          | (go_at_call 21; (with_reducible refine (HSm.out _ hbk).mono ?_); rintro e wk ⟨rfl, hbn⟩; have hbk := hbk.trans (hbn.mono hbk.size); clear hbn)
          | (go_at_call 20; (with_reducible refine (HHd.out _ hbk).mono ?_); rintro e wk ⟨rfl, hbn⟩; have hbk := hbk.trans (hbn.mono hbk.size); clear hbn))
      all_goals
        have HSh := hid (HSh.out.later hbk)
        clear HX HSm HHd hbk x0 x1 HV1 HLt1
        go_wp2
        have HX := hid (fun wx (hx : Below wk.heap.size wk wx) => (HSh.out.later hx).cells)
        have HSv := hid (HSh.out.saveLit (by omega) [ex] #[.int .i64 7, .int .i64 2, .int .i64 2, .string ⟨#[120]⟩] rfl 1 rfl ⟨by decide, by decide⟩ (en_list (by decide)) (by decide) (g' := ⟨h12, [ex]⟩) (by show (⟨h12, putEs [ea, ec] [ex]⟩ : Lg) = _; rw [show putEs [ea, ec] [ex] = [ex] from by decide]))
        have hbk : Below wk.heap.size wk wk.drew := Below.drew (Below.refl _ _)
        have x0 := HSh.out.cells.1
        have x1 := HSh.out.cells.2
        go_region_held3 (fun wx => wx.cell? ⟨H, 0, none⟩ = some (.int .i64 1) ∧ wx.cell? ⟨H, 1, none⟩ = some (.int .i64 2))
          (first | (with_reducible exact HX.out _ hbk) | (with_reducible exact HX.out _ (Below.alloc hbk (Below.size hbk) _)) | (with_reducible exact hS8))
          (first
            | (go_at_call 49; (with_reducible refine (HEn.out _ _ _ _).mono ?_); rintro e wk ⟨rfl, hbn⟩; have hbk := hbk.trans (hbn.mono hbk.size); clear hbn)
            | (go_at_call 48; (with_reducible refine (HSv.out _ hbk).mono ?_); rintro e w8 ⟨rfl, hS8, T8, s8, hsh8, hk8⟩; have HSh := hid hsh8; clear hsh8 hk8))
        all_goals
          clear HX HSv hbk hS8 x0 x1
          go_wp2_with (first
            | (go_at_call 22; (with_reducible refine (entries_any HSh.out.log).mono ?_); rintro e w10 ⟨v1, rfl, hv1, hb10⟩; obtain ⟨ao2, cap2, hvs, -, -⟩ := hv1.slice; have hvs : v1 = .slice ao2 1 cap2 := hvs; subst hvs; have HLt2 := hid HSh.out.log.lt; have HV2 := hid hv1; have HSh := hid (HSh.out.later hb10); clear hv1 hb10)
            | (go_at_call 50; (with_reducible refine (HSh.out.reset (by omega)).mono ?_); rintro e w15 ⟨rfl, T15, s15, hL15, hk15, hb15⟩; have HE2 := hid (HV2.out.keeps HLt2.out hk15).ents; have HL := hid hL15; have HBw := hid hb15; clear hL15 hk15 hb15)
            | (go_at_call 49; (with_reducible refine (HEn.out _ _ _ _).mono ?_); rintro e w16 ⟨rfl, hbn⟩; have HE3 := hid (HE2.out.below hbn); have HL := hid (HL.out.below hbn); have HBw := hid (HBw.out.trans (hbn.mono HBw.out.size)); clear hbn; have HSm := hid (same_lit (l := [ex]) HE3.out rfl (cs := #[.int .i64 7, .int .i64 2, .int .i64 2, .string ⟨#[120]⟩]) rfl 1 rfl (by decide)))
            | (go_at_call 21; (with_reducible refine HSm.out.mono ?_); rintro e w17 ⟨rfl, hbn⟩; have HL := hid (HL.out.below hbn); have HBw := hid (HBw.out.trans (hbn.mono HBw.out.size)); clear hbn)
            | (go_at_call 22; (with_reducible refine (entries_any HL.out).mono ?_); rintro e w18 ⟨v3, rfl, hv3, hb18⟩; obtain ⟨ao3, cap3x, hvs3, -, -⟩ := hv3.slice; have hvs3 : v3 = .slice ao3 0 cap3x := hvs3; subst hvs3; clear hv3))
          go_ret
          exact ⟨rfl, HBw.out.trans (hb18.mono HBw.out.size)⟩
end Go.Proofs.YtbidglefddmjhaaGreatDoor

