/-
  LAYER 7 (msg), THE PROGRAM: Pack.
-/
import Derived.Test.YtppjojjejabaeaaMsPrI
namespace Go.Proofs.Ytppjojjejabaeaa
open Go.RowKit
set_option linter.unusedVariables false
set_option maxRecDepth 100000

theorem eM_parts (m : Ms) : eM m = encs (heads m) ++ eB m.ok ++ (eI m.ents.length ++ eEs m.ents) ++ eBs m ++ txt m.dt.data.toList := by
  unfold eM eBs
  simp [encs, eI, List.append_assoc]
set_option maxHeartbeats 16000000 in
theorem pack_any {w : World} (m : Ms) (ev vv : Value) (hm : MsAt w m ev vv) (hi : MsIn m) :
    Calls Try.prog 11 #[msV m ev vv] w (PackPost w (packN m)) := by
  have hbB : Below w.heap.size w (w.alloc (.cells (msCells m ev vv) 27)) := (Below.refl _ _).alloc (Nat.le_refl _) _
  have HR := hid (right_any m ev vv (hm.below hbB) hi)
  have HBx := hid (fun wx (h : Below (w.alloc (.cells (msCells m ev vv) 27)).heap.size (w.alloc (.cells (msCells m ev vv) 27)) wx) => (own.new w (msCells m ev vv) 27).same (h.block _ (by simp)))
  have HPoss : Hid (∀ wx, Below (w.alloc (.cells (msCells m ev vv) 27)).heap.size (w.alloc (.cells (msCells m ev vv) 27)) wx → Below w.heap.size w wx) := hid (fun wx h => hbB.trans (h.mono (by simp)))
  obtain ⟨ea, ec, rfl, _⟩ := ents_at hm.ents
  obtain ⟨va, vc, rfl, _⟩ := nums_at hm.vot
  unfold packN
  clear hbB
  cases hr : rightM m with
  | false =>
    rw [hr] at HR
    simp only [Bool.false_eq_true, if_false]
    clear hr hm hi
    unfold msV at *
    unfold msCells at *
    go_enter Try.func11, Try.ntmps11
    go_wp2_with (go_at_call 13; (with_reducible refine HR.out.mono ?_); rintro e w1 ⟨rfl, hb1⟩)
    go_ret2
    exact ⟨rfl, HPoss.out _ hb1⟩
  | true =>
    rw [hr] at HR
    have hB := rightM_b hr
    simp only [if_true]
    have HMs := hid hm
    obtain ⟨s1, hs1⟩ : ∃ s, mk (encs (heads m) ++ eB m.ok) = s := ⟨_, rfl⟩
    obtain ⟨s2, hs2⟩ : ∃ s, mk (eI m.ents.length ++ eEs m.ents) = s := ⟨_, rfl⟩
    obtain ⟨s3, hs3⟩ : ∃ s, mk (eBs m) = s := ⟨_, rfl⟩
    obtain ⟨s4, hs4⟩ : ∃ s, mk (txt m.dt.data.toList) = s := ⟨_, rfl⟩
    have z1 : s1.size ≤ 71 := by
      rw [← hs1, mk_size, List.length_append]
      have h1 := encs_len (heads m) hB.heads
      have h2 : (eB m.ok).length = 1 := rfl
      have h3 : (heads m).length = 7 := rfl
      omega
    have z2 : s2.size ≤ 32000330 := by
      rw [← hs2, mk_size, List.length_append]
      have h1 := eEs_len m.ents hB.ents
      have h2 := eI_len (n := (m.ents.length : Int)) ⟨by have := hB.el; omega, by have := hB.el; omega⟩
      have := hB.el
      omega
    have z4 : s4.size ≤ 4000010 := by rw [← hs4, mk_size]; exact txt_len hB.dt
    have z3 : s3.size ≤ 4000130 := by
      rw [← hs3, mk_size]
      unfold eBs eV
      simp only [List.length_append]
      have h1 := encs_len [m.bi, m.bt] (by intro n hn; simp at hn; rcases hn with rfl | rfl; exact hB.bi; exact hB.bt)
      have h2 := encs_len m.vot hB.vot
      have h3 := eI_len (n := (m.vot.length : Int)) ⟨by have := hB.vl; omega, by have := hB.vl; omega⟩
      have h4 := txt_len hB.bd
      have := hB.vl
      simp at h1
      omega
    have q1 : ¬ 9223372036854775807 < s1.size + s2.size := by omega
    have q2 : ¬ 9223372036854775807 < s1.size + s2.size + s3.size := by omega
    have q3 : ¬ 9223372036854775807 < s1.size + s2.size + s3.size + s4.size := by omega
    have HE : Hid (s1 ++ s2 ++ s3 ++ s4 = mk (eM m)) := hid (by rw [← hs1, ← hs2, ← hs3, ← hs4, mk_append, mk_append, mk_append, eM_parts])
    have HH : Hid (∀ wx, Below w.heap.size w wx → Calls Try.prog 23 #[msV m (.slice ea m.ents.length ec) (.slice va m.vot.length vc)] wx fun e w' => e = .returned (.string s1) ∧ Below wx.heap.size wx w') := hid (fun wx h => by rw [← hs1]; exact head_any m _ _ (hm.below h) hB.heads)
    have HEn : Hid (∀ wx, Below w.heap.size w wx → Calls Try.prog 24 #[.slice ea m.ents.length ec] wx fun e w' => e = .returned (.string s2) ∧ Below wx.heap.size wx w') := hid (fun wx h => by rw [← hs2]; exact entries_any (hm.ents.below h) hB.ents hB.el)
    have HBs : Hid (∀ wx, Below w.heap.size w wx → Calls Try.prog 25 #[.agg #[.int .i64 m.bi, .int .i64 m.bt, .slice va m.vot.length vc, .string m.bd]] wx fun e w' => e = .returned (.string s3) ∧ Below wx.heap.size wx w') := hid (fun wx h => by rw [← hs3]; exact base_any m _ (hm.vot.below h) hB)
    have HT : Hid (∀ wy g, own wy g #[.string m.dt] 9 → Calls Try.prog 26 #[.slice (some ⟨g, 0, none⟩) 1 1] wy fun e w' => e = .returned (.string s4) ∧ Below wy.heap.size wy w') := hid (fun wy g h => by rw [← hs4]; exact pText_own m.dt wy g h hB.dt)
    clear hr hm hi hB hs1 hs2 hs3 hs4 z1 z2 z3 z4
    unfold msV at *
    unfold msCells at *
    go_enter Try.func11, Try.ntmps11
    go_upto_region 3 with (first
      | (go_at_call 13; (with_reducible refine HR.out.mono ?_); rintro e w1 ⟨rfl, hb1⟩; have HB1 := hid hb1; have ho1 := HBx.out _ hb1; have HO1 := hid ho1; clear hb1 ho1))
    have HCs : Hid (∀ wx, Below w1.heap.size w1 wx → (wx.cell? ⟨w.heap.size, 0, none⟩ = some (.int .i64 m.kind) ∧ wx.cell? ⟨w.heap.size, 1, none⟩ = some (.int .i64 m.fr) ∧ wx.cell? ⟨w.heap.size, 2, none⟩ = some (.int .i64 m.to_) ∧ wx.cell? ⟨w.heap.size, 3, none⟩ = some (.int .i64 m.term) ∧ wx.cell? ⟨w.heap.size, 4, none⟩ = some (.int .i64 m.index) ∧ wx.cell? ⟨w.heap.size, 5, none⟩ = some (.int .i64 m.logTerm) ∧ wx.cell? ⟨w.heap.size, 6, none⟩ = some (.int .i64 m.commit) ∧ wx.cell? ⟨w.heap.size, 7, none⟩ = some (.bool m.ok) ∧ wx.cell? ⟨w.heap.size, 8, none⟩ = some (.slice ea m.ents.length ec) ∧ wx.cell? ⟨w.heap.size, 9, none⟩ = some (.int .i64 m.bi) ∧ wx.cell? ⟨w.heap.size, 10, none⟩ = some (.int .i64 m.bt) ∧ wx.cell? ⟨w.heap.size, 11, none⟩ = some (.slice va m.vot.length vc) ∧ wx.cell? ⟨w.heap.size, 12, none⟩ = some (.string m.bd) ∧ wx.cell? ⟨w.heap.size, 13, none⟩ = some (.string m.dt)) ∧ Below w1.heap.size w1 wx) := hid (fun wx h => by
      have o := HO1.out.same (h.block _ HO1.out.lt)
      exact ⟨⟨(o.cell 0).trans rfl, (o.cell 1).trans rfl, (o.cell 2).trans rfl, (o.cell 3).trans rfl, (o.cell 4).trans rfl, (o.cell 5).trans rfl, (o.cell 6).trans rfl, (o.cell 7).trans rfl, (o.cell 8).trans rfl, (o.cell 9).trans rfl, (o.cell 10).trans rfl, (o.cell 11).trans rfl, (o.cell 12).trans rfl, (o.cell 13).trans rfl⟩, h⟩)
    have HP1 : Hid (∀ wx, Below w1.heap.size w1 wx → Below w.heap.size w wx) := hid (fun wx h => HPoss.out _ (HB1.out.trans (h.mono HB1.out.size)))
    have hbd : Below w1.heap.size w1 w1.drew := Below.drew (Below.refl _ _)
    have HDr : Hid (∀ wx, Below w1.heap.size w1 wx → Below w1.heap.size w1 wx.drew) := hid (fun wx h => Below.drew h)
    have HAm : Hid (∀ wx cs T, Below w1.heap.size w1 wx → Below w1.heap.size w1 (wx.alloc (.cells cs T))) := hid (fun wx cs T h => (h.alloc h.size _))
    have HTr : Hid (∀ wx wy, Below w1.heap.size w1 wx → Below wx.heap.size wx wy → Below w1.heap.size w1 wy) := hid (fun wx wy h k => h.trans (k.mono h.size))
    have HRf := hid (Below.refl w1.heap.size w1)
    clear HB1 HO1 HBx HR
    go_region_held3 (fun wx => (wx.cell? ⟨w.heap.size, 0, none⟩ = some (.int .i64 m.kind) ∧ wx.cell? ⟨w.heap.size, 1, none⟩ = some (.int .i64 m.fr) ∧ wx.cell? ⟨w.heap.size, 2, none⟩ = some (.int .i64 m.to_) ∧ wx.cell? ⟨w.heap.size, 3, none⟩ = some (.int .i64 m.term) ∧ wx.cell? ⟨w.heap.size, 4, none⟩ = some (.int .i64 m.index) ∧ wx.cell? ⟨w.heap.size, 5, none⟩ = some (.int .i64 m.logTerm) ∧ wx.cell? ⟨w.heap.size, 6, none⟩ = some (.int .i64 m.commit) ∧ wx.cell? ⟨w.heap.size, 7, none⟩ = some (.bool m.ok) ∧ wx.cell? ⟨w.heap.size, 8, none⟩ = some (.slice ea m.ents.length ec) ∧ wx.cell? ⟨w.heap.size, 9, none⟩ = some (.int .i64 m.bi) ∧ wx.cell? ⟨w.heap.size, 10, none⟩ = some (.int .i64 m.bt) ∧ wx.cell? ⟨w.heap.size, 11, none⟩ = some (.slice va m.vot.length vc) ∧ wx.cell? ⟨w.heap.size, 12, none⟩ = some (.string m.bd) ∧ wx.cell? ⟨w.heap.size, 13, none⟩ = some (.string m.dt)) ∧ Below w1.heap.size w1 wx)
      (first | (with_reducible exact HCs.out _ hbk) | (with_reducible (refine HCs.out _ ?_; repeat (first | exact HRf.out | exact And.right (by assumption) | refine HDr.out _ ?_ | refine HAm.out _ _ _ ?_))) | (with_reducible assumption))
      (first
        | (go_at_call 23; (with_reducible refine (HH.out _ (HP1.out _ (And.right (by assumption)))).mono ?_); rintro e w3 ⟨rfl, hbh⟩; have hbk : Below w1.heap.size w1 w3 := HTr.out _ _ (And.right (by assumption)) hbh)
        | (go_at_call 24; (with_reducible refine (HEn.out _ (HP1.out _ (And.right (by assumption)))).mono ?_); rintro e w3 ⟨rfl, hbe⟩; have hbk : Below w1.heap.size w1 w3 := HTr.out _ _ (And.right (by assumption)) hbe)
        | (go_at_call 25; (with_reducible refine (HBs.out _ (HP1.out _ (And.right (by assumption)))).mono ?_); rintro e w3 ⟨rfl, hbb⟩; have hbk : Below w1.heap.size w1 w3 := HTr.out _ _ (And.right (by assumption)) hbb)
        | (go_at_call 26; (with_reducible refine (HT.out _ _ (by with_reducible (repeat (first | exact own.new _ _ _ | exact own.nw (by simp; done) | refine own.dr ?_ | refine own.al _ ?_ | refine own.be hbb ?_ | refine own.be hbe ?_ | refine own.be hbh ?_)))).mono ?_); rintro e w3 ⟨rfl, hb3⟩; have hbk : Below w1.heap.size w1 w3 := HTr.out _ _ (And.right (by assumption)) hb3))
    all_goals
      have HFN := hid (HP1.out _ hbk)
      clear hbk
      go_wp2
      go_ret2
      exact ⟨by rw [← HE.out]; rfl, HFN.out⟩
end Go.Proofs.Ytppjojjejabaeaa
