import Derived.Test.YtbccikefccdekaaGreatDoorSnShAJ
/-
  LAYER 4 (snap), the laws' own helpers: shown.
-/
namespace Go.Proofs.YtbccikefccdekaaGreatDoor
open Go.RowKit Go.Shelf
attribute [local go_sem] Oper.semAt_some
set_option linter.unusedVariables false
set_option maxRecDepth 100000

abbrev shV (g : Nat) : Value := .slice (some ⟨g, 0, none⟩) 3 3
abbrev shC (ix : Int) (g : Nat) : Array Value := #[.int .i64 ix, .int .i64 1, shV g, .string ⟨#[97, 98, 99]⟩]
/-- A disk made since W, and beside it the base's row g and its box H. -/
structure ShB (W : World) (a g H : Nat) (ix : Int) (s : Dk) (wx : World) : Prop where
  disk : ∃ T, DiskIs wx T a s ∧ (∀ x, T x → W.heap.size ≤ x) ∧ ¬ T g ∧ ¬ T H
  og : own wx g #[.int .i64 1, .int .i64 2, .int .i64 3] 3
  oH : own wx H (shC ix g) 24
  bel : Below W.heap.size W wx
  gg : W.heap.size ≤ g
  gH : W.heap.size ≤ H
  ne : g ≠ H
section
variable {W wx wy : World} {a g H : Nat} {ix : Int} {s : Dk}
theorem ShB.later (h : ShB W a g H ix s wx) (hb : Below wx.heap.size wx wy) : ShB W a g H ix s wy := by
  obtain ⟨T, h1, h2, h3, h4⟩ := h.disk
  exact ⟨⟨T, diskIs_below h1 hb, h2, h3, h4⟩, h.og.same (hb.block _ h.og.lt), h.oH.same (hb.block _ h.oH.lt), h.bel.trans (hb.mono h.bel.size), h.gg, h.gH, h.ne⟩
theorem ShB.bat (h : ShB W a g H ix s wx) (hix : ix = 3 ∨ ix = 7) : BAt wx (shV g) (shb ix) := by
  refine ⟨⟨by show -9223372036854775808 ≤ ix; omega, by show ix ≤ 9223372036854775807; omega⟩, ⟨by show -9223372036854775808 ≤ (1 : Int); omega, by show (1 : Int) ≤ 9223372036854775807; omega⟩, ⟨_, 3, rfl, fun _ => ⟨g, 0, rfl, h.og.lt, fun j x hj => ?_⟩⟩, by show 3 ≤ 1000000; omega, fun v hv => ?_, by show 3 ≤ 100000000; omega⟩
  · rw [h.og.cell, Nat.zero_add]
    change [(1 : Int), 2, 3][j]? = some x at hj
    match j, hj with
    | 0, hj => cases hj; rfl
    | 1, hj => cases hj; rfl
    | 2, hj => cases hj; rfl
    | (n + 3), hj => simp at hj
  · change v ∈ [(1 : Int), 2, 3] at hv
    simp at hv
    unfold I64s
    omega
theorem ShB.box (h : ShB W a g H ix s wx) : wx.cell? ⟨H, 0, none⟩ = some (.int .i64 ix) ∧ wx.cell? ⟨H, 1, none⟩ = some (.int .i64 1) ∧ wx.cell? ⟨H, 2, none⟩ = some (shV g) ∧ wx.cell? ⟨H, 3, none⟩ = some (.string ⟨#[97, 98, 99]⟩) :=
  ⟨(h.oH.cell 0).trans rfl, (h.oH.cell 1).trans rfl, (h.oH.cell 2).trans rfl, (h.oH.cell 3).trans rfl⟩
theorem ShB.set (h : ShB W a g H ix s wx) (k : Int) : ShB W a g H k s (wx.setCell ⟨H, 0, none⟩ (.int .i64 k)) := by
  obtain ⟨T, h1, h2, h3, h4⟩ := h.disk
  have hc := Chg.setCell wx ⟨H, 0, none⟩ (.int .i64 k)
  exact ⟨⟨T, diskIs_chg h1 hc (fun x e q => h4 (by rw [← show x = H from q]; exact e)), h2, h3, h4⟩, h.og.other (p := ⟨H, 0, none⟩) h.ne _, h.oH.set 0 _, h.bel.setCell (p := ⟨H, 0, none⟩) h.gH _, h.gg, h.gH, h.ne⟩
theorem ShB.op {T : Nat → Prop} {r : Dk × Int} {e : Ending} (h : ShB W a g H ix s wx) (h2 : ∀ x, T x → W.heap.size ≤ x) (h3 : ¬ T g) (h4 : ¬ T H) (hp : OpPost wx T a r e wy) : ShB W a g H ix r.1 wy := by
  obtain ⟨-, hd, hc⟩ := hp
  have h0 := h.bel.size
  refine ⟨⟨_, hd, fun x e => ?_, fun e => ?_, fun e => ?_⟩, h.og.chg hc h3, h.oH.chg hc h4, h.bel.trans (hc.below h0 h2), h.gg, h.gH, h.ne⟩
  · rcases e with e | e
    · exact h2 x e
    · omega
  · rcases e with e | e
    · exact h3 e
    · have := h.og.lt; omega
  · rcases e with e | e
    · exact h4 e
    · have := h.oH.lt; omega
theorem ShB.save {B0 : Nat} {s' : Dk} {k : Int} (h : ShB W a g H ix s wx) (hix : ix = 3 ∨ ix = 7) (hg : Sn.Glob W B0) (hB0 : B0 ≤ W.heap.size) (hs : saveS s (shb ix) = (s', k)) :
    Calls Tryz.prog 19 #[.pointer (some ⟨a, 0, none⟩), .agg (shC ix g)] wx fun e wy => e = .returned (.int .i64 k) ∧ ShB W a g H ix s' wy := by
  obtain ⟨T, h1, h2, h3, h4⟩ := h.disk
  have := save_any (B0 := B0) h1 (h.bat hix) (hg.below h.bel hB0) (Nat.le_trans hB0 h.bel.size) (fun x e => Nat.le_trans hB0 (h2 x e)) (fun x e => by cases e; exact h3)
  rw [hs] at this
  exact this.mono fun e wy hp => ⟨hp.1, h.op h2 h3 h4 hp⟩
theorem ShB.list {x : List UInt8} (h : ShB W a g H ix s wx) (hl : s.L.map AF.name = [x]) :
    Calls Tryz.prog 22 #[.pointer (some ⟨a, 0, none⟩)] wx fun e wy => ∃ ao cap, e = .returned (.slice ao 1 cap) ∧ TxAt wy (.slice ao 1 cap) [x] ∧ Below wx.heap.size wx wy := by
  obtain ⟨T, ⟨mb, F, h1⟩, h2, h3, h4⟩ := h.disk
  refine (list_any h1).mono ?_
  rintro e wy ⟨v, rfl, hv, hb⟩
  rw [hl] at hv
  obtain ⟨ao, cap, rfl⟩ := names_slice hv
  exact ⟨ao, cap, rfl, tx_names hv, hb⟩
theorem ShB.load {B0 : Nat} (h : ShB W a g H ix s wx) (hix : ix = 3 ∨ ix = 7) (hg : Sn.Glob W B0) (hB0 : B0 ≤ W.heap.size) (hs : loadD s = some (shb ix)) (hk : deadK s = 0) :
    Calls Tryz.prog 21 #[.pointer (some ⟨a, 0, none⟩)] wx fun e wy => ∃ va vc, e = .returned (.tuple #[.agg #[.int .i64 ix, .int .i64 1, .slice va 3 vc, .string ⟨#[97, 98, 99]⟩], .bool true, .int .i64 0]) ∧ Below wx.heap.size wx wy ∧ BAt wy (.slice va 3 vc) (shb ix) := by
  obtain ⟨T, h1, h2, h3, h4⟩ := h.disk
  have := snLoad_any (B0 := B0) h1 (hg.below h.bel hB0) (Nat.le_trans hB0 h.bel.size)
  rw [hs, hk] at this
  refine this.mono ?_
  rintro e wy ⟨vv, rfl, hb, hba, -⟩
  obtain ⟨va, vc, rfl, -⟩ := (show BAt wy vv (shb ix) from hba).vot
  exact ⟨va, vc, rfl, hb, hba⟩
theorem ShB.same {va : Option Addr} {vc : Nat} (h : ShB W a g H ix s wx) (hix : ix = 3 ∨ ix = 7) (hb : BAt wx (.slice va 3 vc) (shb ix)) :
    Calls Tryz.prog 14 #[.agg #[.int .i64 ix, .int .i64 1, .slice va 3 vc, .string ⟨#[97, 98, 99]⟩], .agg (shC ix g)] wx fun e wy => e = .returned (.bool true) ∧ Below wx.heap.size wx wy := by
  refine (snSame_any hb (h.bat hix)).mono ?_
  rintro e wy ⟨he, hb⟩
  exact ⟨by rw [he]; simp, hb⟩
theorem ShB.bad {B0 : Nat} {s' : Dk} (h : ShB W a g H ix s wx) (hg : Sn.Glob W B0) (hB0 : B0 ≤ W.heap.size) (hs : saveS s shBad = (s', 1)) :
    Calls Tryz.prog 19 #[.pointer (some ⟨a, 0, none⟩), .agg #[.int .i64 1, .int .i64 0, .slice (some ⟨wx.heap.size, 0, none⟩) 2 2, .string ⟨#[]⟩]] (wx.alloc (.cells #[.int .i64 2, .int .i64 1] 3)) fun e wy => e = .returned (.int .i64 1) ∧ Below W.heap.size W wy := by
  have hb : Below wx.heap.size wx (wx.alloc (.cells #[.int .i64 2, .int .i64 1] 3)) := (Below.refl _ _).alloc (Nat.le_refl _) _
  have h' := h.later hb
  have o := own.new wx #[.int .i64 2, .int .i64 1] 3
  obtain ⟨T, h1, h2, h3, h4⟩ := h'.disk
  obtain ⟨T0, k1, k2, k3, k4⟩ := h.disk
  have hba : BAt (wx.alloc (.cells #[.int .i64 2, .int .i64 1] 3)) (.slice (some ⟨wx.heap.size, 0, none⟩) 2 2) shBad := by
    refine ⟨⟨by decide, by decide⟩, ⟨by decide, by decide⟩, ⟨_, 2, rfl, fun _ => ⟨wx.heap.size, 0, rfl, o.lt, fun j x hj => ?_⟩⟩, by show 2 ≤ 1000000; omega, fun v hv => ?_, by show 0 ≤ 100000000; omega⟩
    · rw [o.cell, Nat.zero_add]
      change [(2 : Int), 1][j]? = some x at hj
      match j, hj with
      | 0, hj => cases hj; rfl
      | 1, hj => cases hj; rfl
      | (n + 2), hj => simp at hj
    · change v ∈ [(2 : Int), 1] at hv
      simp at hv
      unfold I64s
      omega
  have := save_any (B0 := B0) (diskIs_below k1 hb) hba (hg.below h'.bel hB0) (Nat.le_trans hB0 h'.bel.size) (fun x e => Nat.le_trans hB0 (k2 x e)) (fun x e q => by
    obtain rfl : x = wx.heap.size := by cases e; rfl
    have := diskIs_ltS k1 _ q; omega)
  rw [hs] at this
  exact this.mono fun e wy hp => ⟨hp.1, h'.bel.trans (hp.2.2.below h'.bel.size k2)⟩
end
set_option maxHeartbeats 16000000 in
theorem shown4_any (w : World) {B0 : Nat} (hg : Sn.Glob w B0) (hB0 : B0 ≤ w.heap.size) :
    Calls Tryz.prog 6 #[] w fun e w' => e = .returned (.bool true) ∧ Below w.heap.size w w' := by
  obtain ⟨s1, s2, e1, e2, e3, e4, e5, e6, e7⟩ := sh_math
  have HN := hid (new_ok 10000 w (by omega) (by omega))
  have HS0 : Hid (∀ w1 a S, DiskIs w1 S a (newD 10000) → (∀ b, S b → w.heap.size ≤ b) → Below w.heap.size w w1 → ShB w a w1.heap.size (w1.heap.size + 1) 3 (newD 10000) ((w1.alloc (.cells #[.int .i64 1, .int .i64 2, .int .i64 3] 3)).alloc (.cells (shC 3 w1.heap.size) 24))) := hid (fun w1 a S hD hS hb => by
    have z1 : (w1.alloc (.cells #[.int .i64 1, .int .i64 2, .int .i64 3] 3)).heap.size = w1.heap.size + 1 := by simp
    have b1 : Below w1.heap.size w1 (w1.alloc (.cells #[.int .i64 1, .int .i64 2, .int .i64 3] 3)) := (Below.refl _ _).alloc (Nat.le_refl _) _
    have b2 : Below w1.heap.size w1 ((w1.alloc (.cells #[.int .i64 1, .int .i64 2, .int .i64 3] 3)).alloc (.cells (shC 3 w1.heap.size) 24)) := b1.alloc (by omega) _
    have o2 := own.new (w1.alloc (.cells #[.int .i64 1, .int .i64 2, .int .i64 3] 3)) (shC 3 w1.heap.size) 24
    rw [z1] at o2
    have hlt := diskIs_ltS hD
    exact ⟨⟨S, diskIs_below hD b2, hS, fun e => by have := hlt _ e; omega, fun e => by have := hlt _ e; omega⟩, (own.new w1 _ _).same (Below.heap_alloc _ _ _ (by omega)), o2, hb.trans (b2.mono hb.size), hb.size, by have := hb.size; omega, by omega⟩)
  have HSv1 : Hid (∀ a g H wx, ShB w a g H 3 (newD 10000) wx → Calls Tryz.prog 19 #[.pointer (some ⟨a, 0, none⟩), .agg (shC 3 g)] wx fun e wy => e = .returned (.int .i64 0) ∧ ShB w a g H 3 s1 wy) := hid (fun a g H wx h => h.save (.inl rfl) hg hB0 e1)
  have HSv2 : Hid (∀ a g H wx, ShB w a g H 7 s1 wx → Calls Tryz.prog 19 #[.pointer (some ⟨a, 0, none⟩), .agg (shC 7 g)] wx fun e wy => e = .returned (.int .i64 0) ∧ ShB w a g H 7 s2 wy) := hid (fun a g H wx h => h.save (.inr rfl) hg hB0 e5)
  have HLi1 : Hid (∀ a g H wx, ShB w a g H 3 s1 wx → _) := hid (fun a g H wx h => h.list e2)
  have HLi2 : Hid (∀ a g H wx, ShB w a g H 7 s2 wx → _) := hid (fun a g H wx h => h.list e6)
  have HLd : Hid (∀ a g H wx, ShB w a g H 3 s1 wx → _) := hid (fun a g H wx h => h.load (.inl rfl) hg hB0 e3 e4)
  have HBd : Hid (∀ a g H wx, ShB w a g H 7 s2 wx → _) := hid (fun a g H wx h => h.bad hg hB0 e7)
  have HTx : Hid (∀ wx v x, TxAt wx v [x] → Calls Tryz.prog 23 #[v, .slice (some ⟨wx.heap.size, 0, none⟩) 1 1] (wx.alloc (.cells #[.string (mk x)] 9)) fun e wy => e = .returned (.bool true) ∧ Below wx.heap.size wx wy) := hid (fun wx v x h => by
    have hb : Below wx.heap.size wx (wx.alloc (.cells #[.string (mk x)] 9)) := (Below.refl _ _).alloc (Nat.le_refl _) _
    refine (snTexts_any (h.later hb) (tx_one wx x) (by simp)).mono ?_
    rintro e wy ⟨he, h2⟩
    exact ⟨he, hb.trans (h2.mono hb.size)⟩)
  have HTx3 : Hid (∀ wx v, TxAt wx v [[112, 51]] → Calls Tryz.prog 23 #[v, .slice (some ⟨wx.heap.size, 0, none⟩) 1 1] (wx.alloc (.cells #[.string ⟨#[112, 51]⟩] 9)) fun e wy => e = .returned (.bool true) ∧ Below wx.heap.size wx wy) := hid (fun wx v h => HTx.out wx v _ h)
  have HTx7 : Hid (∀ wx v, TxAt wx v [[112, 55]] → Calls Tryz.prog 23 #[v, .slice (some ⟨wx.heap.size, 0, none⟩) 1 1] (wx.alloc (.cells #[.string ⟨#[112, 55]⟩] 9)) fun e wy => e = .returned (.bool true) ∧ Below wx.heap.size wx wy) := hid (fun wx v h => HTx.out wx v _ h)
  have HAl : Hid (∀ a g H wx cs, ShB w a g H 3 s1 wx → ShB w a g H 3 s1 (wx.alloc (.cells cs 24))) := hid (fun a g H wx cs h => h.later ((Below.refl _ _).alloc (Nat.le_refl _) _))
  clear hg hB0 e1 e2 e3 e4 e5 e6 e7 HTx
  generalize newD 10000 = s0 at *
  go_enter Tryz.func6, Tryz.ntmps6
  go_wp2_with (first
    | (go_at_call 16; (with_reducible refine HN.out.mono ?_); rintro e w1 ⟨a, S, rfl, hD1, hS1, hb1⟩; have HSh := hid (HS0.out w1 a S hD1 hS1 hb1); clear hD1 hS1 hb1)
    | (go_at_call 19; (with_reducible refine (HSv1.out _ _ _ _ HSh.out).mono ?_); rintro e w6 ⟨rfl, hsh6⟩; have HSh6 := hid hsh6; clear hsh6)
    | (go_at_call 22; (with_reducible refine (HLi1.out _ _ _ _ HSh6.out).mono ?_); rintro e w7 ⟨ao, cap, rfl, ht7, hb7⟩; have HT7 := hid ht7; have HSh7 := hid (HSh6.out.later hb7); clear ht7 hb7)
    | (go_at_call 21; (with_reducible refine (HLd.out _ _ _ _ HSh7.out).mono ?_); rintro e w8 ⟨va, vc, rfl, hb8, hba8⟩; have HT8 := hid (HT7.out.later hb8); have HSh8 := hid (HSh7.out.later hb8); have HBA8 := hid hba8; clear hb8 hba8; obtain ⟨x0, x1, x2, x3⟩ := (HAl.out _ _ _ _ #[.int .i64 3, .int .i64 1, .slice va 3 vc, .string ⟨#[97, 98, 99]⟩] HSh8.out).box)
    | (go_at_call 14; (with_reducible refine (ShB.same (HAl.out _ _ _ _ #[.int .i64 3, .int .i64 1, .slice va 3 vc, .string ⟨#[97, 98, 99]⟩] HSh8.out) (.inl rfl) (HBA8.out.below ((Below.refl _ _).alloc (Nat.le_refl _) _))).mono ?_); rintro e w9 ⟨rfl, hb9⟩; have HT9 := hid (HT8.out.later (((Below.refl _ _).alloc (Nat.le_refl _) _).trans (hb9.mono (by simp)))); have HSh9 := hid ((HAl.out _ _ _ _ #[.int .i64 3, .int .i64 1, .slice va 3 vc, .string ⟨#[97, 98, 99]⟩] HSh8.out).later hb9); clear hb9)
    | (go_at_call 23; (with_reducible refine (HTx3.out _ _ HT9.out).mono ?_); rintro e w10 ⟨rfl, hb10⟩; have HSh10 := hid (HSh9.out.later hb10); clear hb10; obtain ⟨y0, -, -, -⟩ := HSh10.out.box; have fy := HSh10.out.oH.frozen 0; obtain ⟨z0, z1, z2, z3⟩ := (HSh10.out.set 7).box)
    | (go_at_call 19; (with_reducible refine (HSv2.out _ _ _ _ (HSh10.out.set 7)).mono ?_); rintro e w11 ⟨rfl, hsh11⟩; have HSh11 := hid hsh11; clear hsh11)
    | (go_at_call 22; (with_reducible refine (HLi2.out _ _ _ _ HSh11.out).mono ?_); rintro e w12 ⟨ao2, cap2, rfl, ht12, hb12⟩; have HT12 := hid ht12; have HSh12 := hid (HSh11.out.later hb12); clear ht12 hb12)
    | (go_at_call 23; (with_reducible refine (HTx7.out _ _ HT12.out).mono ?_); rintro e w13 ⟨rfl, hb13⟩; have HSh13 := hid (HSh12.out.later hb13); clear hb13)
    | (go_at_call 19; (with_reducible refine (HBd.out _ _ _ _ HSh13.out).mono ?_); rintro e w14 ⟨rfl, hbw⟩))
  go_ret
  exact ⟨rfl, hbw⟩
end Go.Proofs.YtbccikefccdekaaGreatDoor

