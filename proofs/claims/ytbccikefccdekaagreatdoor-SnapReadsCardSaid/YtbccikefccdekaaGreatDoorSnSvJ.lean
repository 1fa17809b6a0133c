import Derived.Test.YtbccikefccdekaaGreatDoorSnReJ
/-
  LAYER 4 (snap), THE PROGRAM: Save.
-/
namespace Go.Proofs.YtbccikefccdekaaGreatDoor
open Go.RowKit Go.Shelf
attribute [local go_sem] Oper.semAt_some
set_option linter.unusedVariables false
set_option maxRecDepth 100000

theorem opPost_from {w w1 w2 : World} {S : Nat → Prop} {a : Nat} {r : Dk × Int} {e : Ending} (hlt : ∀ b, S b → b < w.heap.size) (hb : Below w.heap.size w w1) (hp : OpPost w1 S a r e w2) : OpPost w S a r e w2 := by
  obtain ⟨he, ⟨mb, F, hd⟩, hc⟩ := hp
  exact ⟨he, ⟨mb, F, hd.after (S1 := S) (fun b hb => .inl hb) hlt hb.size hc.size⟩, (Chg.of_below hb).after (fun b hb => .inl hb) hc⟩
/-- A base's box is still as it was laid. -/
def BoxB (g : Nat) (b : Bs) (vv : Value) (W : World) : Prop := W.cell? ⟨g, 0, none⟩ = some (.int .i64 b.ix) ∧ W.cell? ⟨g, 1, none⟩ = some (.int .i64 b.tm) ∧ W.cell? ⟨g, 2, none⟩ = some vv ∧ W.cell? ⟨g, 3, none⟩ = some (.string (mk b.data))
theorem boxB_of {g : Nat} {b : Bs} {vv : Value} {W : World} (o : own W g (bcells b vv) 24) : BoxB g b vv W := ⟨(o.cell 0).trans rfl, (o.cell 1).trans rfl, (o.cell 2).trans rfl, (o.cell 3).trans rfl⟩
theorem rightS_ne {b : Bs} (h : rightS b = true) : b.vot ≠ [] := by
  rw [rightS_is] at h
  simp only [Bool.and_eq_true, decide_eq_true_eq] at h
  exact h.1.2.2
set_option maxHeartbeats 16000000 in
theorem save_any0 {w : World} {S : Nat → Prop} {a : Nat} {s : Dk} {b : Bs} {vv : Value} {B0 : Nat} (hd : DiskIs w S a s) (h : BAt w vv b) (hg : Sn.Glob w B0) (hB0 : B0 ≤ w.heap.size) (hSB : ∀ x, S x → B0 ≤ x) (hvS : b.vot ≠ [] → ∀ x, vv.ownBlock = some x → ¬ S x) :
    Calls Tryz.prog 19 #[.pointer (some ⟨a, 0, none⟩), bval b vv] w (OpPost w S a (saveS s b)) := by
  have hSl := diskIs_ltS hd
  dsimp only [bval]
  obtain ⟨W1, hW1⟩ : ∃ W1, w.alloc (.cells #[.int .i64 b.ix, .int .i64 b.tm, vv, .string (mk b.data)] 24) = W1 := ⟨_, rfl⟩
  have b1 : Below w.heap.size w W1 := by rw [← hW1]; exact (Below.refl _ _).alloc (Nat.le_refl _) _
  have z1 : W1.heap.size = w.heap.size + 1 := by rw [← hW1]; simp
  have o1 : own W1 w.heap.size (bcells b vv) 24 := by rw [← hW1]; exact own.new _ _ _
  have h1 : BAt W1 vv b := h.below b1
  have hRt := snRight_any h1
  dsimp only [bval] at hRt
  have HRt := hid hRt
  clear hRt
  obtain ⟨p0, p1, p2, p3⟩ := boxB_of o1
  have HC : Hid (∀ W2, Below W1.heap.size W1 W2 → BoxB w.heap.size b vv W2) := hid (fun W2 hb => boxB_of (o1.same (hb.block _ o1.lt)))
  have HB : Hid (∀ W2, Below W1.heap.size W1 W2 → Below w.heap.size w W2) := hid (fun W2 hb => b1.trans (hb.mono b1.size))
  have hnS : ¬ S w.heap.size := fun e => by have := hSl _ e; omega
  cases hr : rightS b with
  | false =>
    rw [hr] at HRt
    have hsv : saveS s b = (s, 1) := by unfold saveS; rw [if_pos hr]
    rw [hsv]
    have HE : Hid (∀ W2, Below W1.heap.size W1 W2 → OpPost w S a (s, 1) (.returned (.int .i64 1)) W2) := hid (fun W2 hb => by
      have hb2 := HB.out W2 hb
      exact ⟨rfl, diskIs_widen (diskIs_below hd hb2) (fun x e => .inl e) (fun x e => e.elim (fun k => Nat.lt_of_lt_of_le (hSl x k) hb2.size) (fun k => k.2)), Chg.of_below hb2⟩)
    clear hd h hg o1 h1 hSB hvS hr hSl HC HB b1
    go_enter Tryz.func19, Tryz.ntmps19
    go_wp2_with (go_at_call 10; (with_reducible refine HRt.out.mono ?_); rintro e W2 ⟨rfl, hb2⟩)
    go_ret
    exact HE.out _ hb2
  | true =>
    rw [hr] at HRt
    have hsv : saveS s b = if (replaceS s b).2 = 0 ∨ (replaceS s b).2 = 7 then replaceS s b else
      if (dropS (replaceS s b).1 draftN).2 = 7 then ((dropS (replaceS s b).1 draftN).1, 7) else ((dropS (replaceS s b).1 draftN).1, (replaceS s b).2) := by
      unfold saveS; rw [if_neg (by rw [hr]; simp)]
    rw [hsv]
    obtain ⟨r, hrr⟩ : ∃ r, replaceS s b = r := ⟨_, rfl⟩
    rw [hrr]
    have HRp : Hid (∀ W2, Below W1.heap.size W1 W2 → Calls Tryz.prog 34 #[.pointer (some ⟨a, 0, none⟩), .agg #[.int .i64 b.ix, .int .i64 b.tm, vv, .string (mk b.data)]] W2 (OpPost W2 S a r)) := hid (fun W2 hb => by
      have hb2 := HB.out W2 hb
      have := replace_any (B0 := B0) (diskIs_below hd hb2) (h.below hb2) hr (hg.below hb2 hB0) (Nat.le_trans hB0 hb2.size) hSB (hvS (rightS_ne hr))
      rw [hrr] at this
      exact this)
    obtain ⟨s1, k1⟩ := r
    have HF : Hid (∀ W2 W3 r e, Below W1.heap.size W1 W2 → OpPost W2 S a r e W3 → OpPost w S a r e W3) := hid (fun W2 W3 r e hb hp => opPost_from hSl (HB.out W2 hb) hp)
    by_cases hk : k1 = 0 ∨ k1 = 7
    · rw [if_pos hk]
      clear hd h hg o1 h1 hSB hvS hr hSl b1 hsv hrr
      rcases hk with rfl | rfl
      · go_enter Tryz.func19, Tryz.ntmps19
        go_wp2_with (first
          | (go_at_call 10; (with_reducible refine HRt.out.mono ?_); rintro e W2 ⟨rfl, hb2⟩; obtain ⟨q0, q1, q2, q3⟩ := HC.out W2 hb2)
          | (go_at_call 34; (with_reducible refine (HRp.out W2 hb2).mono ?_); rintro e W3 ⟨rfl, hq⟩))
        go_ret
        exact HF.out _ _ _ _ hb2 ⟨rfl, hq⟩
      · go_enter Tryz.func19, Tryz.ntmps19
        go_wp2_with (first
          | (go_at_call 10; (with_reducible refine HRt.out.mono ?_); rintro e W2 ⟨rfl, hb2⟩; obtain ⟨q0, q1, q2, q3⟩ := HC.out W2 hb2)
          | (go_at_call 34; (with_reducible refine (HRp.out W2 hb2).mono ?_); rintro e W3 ⟨rfl, hq⟩))
        go_ret
        exact HF.out _ _ _ _ hb2 ⟨rfl, hq⟩
    · rw [if_neg hk]
      have hk0 : (k1 == 0) = false := beq_eq_false_iff_ne.2 (fun e => hk (.inl e))
      have hk7 : (k1 == 7) = false := beq_eq_false_iff_ne.2 (fun e => hk (.inr e))
      obtain ⟨r, hdr⟩ : ∃ r, dropS s1 draftN = r := ⟨_, rfl⟩
      simp only [hdr]
      have HDr : Hid (∀ W3 T, DiskIs W3 T a s1 → Calls Tryz.prog 35 #[.pointer (some ⟨a, 0, none⟩), .string draftB] W3 (OpPost W3 T a r)) := hid (fun W3 T hd3 => by
        have := drop_any hd3 draftB (by decide)
        rw [draftB_is, hdr] at this
        exact this)
      obtain ⟨s2, k2⟩ := r
      have HG : Hid (∀ W2 W3 W4, Below W1.heap.size W1 W2 → OpPost W2 S a (s1, k1) (.returned (.int .i64 k1)) W3 → OpPost W3 (grow S W2 W3) a (s2, k2) (.returned (.int .i64 k2)) W4 → ∀ k, OpPost w S a (s2, k) (.returned (.int .i64 k)) W4) := hid (fun W2 W3 W4 hb hp hp2 k => by
        have h3 := HF.out _ _ _ _ hb (opPost_thenS (fun x e => Nat.lt_of_lt_of_le (hSl x e) (HB.out W2 hb).size) hp hp2)
        exact ⟨rfl, h3.2⟩)
      clear hd h hg o1 h1 hSB hvS hr hSl b1 hsv hrr hdr
      by_cases hd7 : k2 = 7
      · subst hd7
        rw [if_pos rfl]
        go_enter Tryz.func19, Tryz.ntmps19
        go_wp2_with (first
          | (go_at_call 10; (with_reducible refine HRt.out.mono ?_); rintro e W2 ⟨rfl, hb2⟩; obtain ⟨q0, q1, q2, q3⟩ := HC.out W2 hb2)
          | (go_at_call 34; (with_reducible refine (HRp.out W2 hb2).mono ?_); rintro e W3 ⟨rfl, hq⟩)
          | (go_at_call 35; (with_reducible refine (HDr.out W3 _ hq.1).mono ?_); rintro e W4 ⟨rfl, hq4⟩))
        go_ret
        exact HG.out _ _ _ hb2 ⟨rfl, hq⟩ ⟨rfl, hq4⟩ _
      · rw [if_neg hd7]
        have hq7 : (k2 == 7) = false := beq_eq_false_iff_ne.2 hd7
        clear hd7
        go_enter Tryz.func19, Tryz.ntmps19
        go_wp2_with (first
          | (go_at_call 10; (with_reducible refine HRt.out.mono ?_); rintro e W2 ⟨rfl, hb2⟩; obtain ⟨q0, q1, q2, q3⟩ := HC.out W2 hb2)
          | (go_at_call 34; (with_reducible refine (HRp.out W2 hb2).mono ?_); rintro e W3 ⟨rfl, hq⟩)
          | (go_at_call 35; (with_reducible refine (HDr.out W3 _ hq.1).mono ?_); rintro e W4 ⟨rfl, hq4⟩))
        go_ret
        exact HG.out _ _ _ hb2 ⟨rfl, hq⟩ ⟨rfl, hq4⟩ _
theorem save_any {w : World} {S : Nat → Prop} {a : Nat} {s : Dk} {b : Bs} {vv : Value} {B0 : Nat} (hd : DiskIs w S a s) (h : BAt w vv b) (hg : Sn.Glob w B0) (hB0 : B0 ≤ w.heap.size) (hSB : ∀ x, S x → B0 ≤ x) (hvS : ∀ x, vv.ownBlock = some x → ¬ S x) :
    Calls Tryz.prog 19 #[.pointer (some ⟨a, 0, none⟩), bval b vv] w (OpPost w S a (saveS s b)) := save_any0 hd h hg hB0 hSB (fun _ => hvS)
end Go.Proofs.YtbccikefccdekaaGreatDoor

