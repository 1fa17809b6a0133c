/-
  LAYER 7 (msg), THE PROGRAM: head, base.
-/
import Derived.Test.YtppjojjejabaeaaMsPrF
import Derived.Deep.RegionHeld3
namespace Go.Proofs.Ytppjojjejabaeaa
open Go.RowKit
set_option linter.unusedVariables false
set_option maxRecDepth 100000

set_option maxHeartbeats 4000000 in
theorem head_any {w : World} (m : Ms) (ev vv : Value) (hm : MsAt w m ev vv) (hh : ∀ n ∈ heads m, i64b n) :
    Calls Try.prog 23 #[msV m ev vv] w (StrPost w (encs (heads m) ++ eB m.ok)) := by
  obtain ⟨ea, ec, rfl, _⟩ := ents_at hm.ents
  obtain ⟨va, vc, rfl, _⟩ := nums_at hm.vot
  obtain ⟨wB, hwB⟩ : ∃ wB, w.alloc (.cells (msCells m (.slice ea m.ents.length ec) (.slice va m.vot.length vc)) 27) = wB := ⟨_, rfl⟩
  have hbB : Below w.heap.size w wB := by rw [← hwB]; exact (Below.refl _ _).alloc (Nat.le_refl _) _
  have obx : own wB w.heap.size (msCells m (.slice ea m.ents.length ec) (.slice va m.vot.length vc)) 27 := by rw [← hwB]; exact own.new w _ _
  have H1 : Hid (∀ wx g, wx.heap.size = g → Calls Try.prog 37 #[.slice (some ⟨g, 0, none⟩) 7 7] (wx.alloc (.cells #[.int .i64 m.kind, .int .i64 m.fr, .int .i64 m.to_, .int .i64 m.term, .int .i64 m.index, .int .i64 m.logTerm, .int .i64 m.commit] 3)).drew fun e w' => e = .returned (.string (mk (encs (heads m)))) ∧ Below wx.heap.size wx w') := hid (fun wx g hg => pInts_drew (heads m) wx g 7 hg rfl hh (by omega))
  have H2 : Hid (∀ wx, Calls Try.prog 44 #[.bool m.ok] wx fun e w' => e = .returned (.string (mk (eB m.ok))) ∧ wx = w') := hid (fun wx => bool_any m.ok wx)
  obtain ⟨s1, hs1⟩ : ∃ s, mk (encs (heads m)) = s := ⟨_, rfl⟩
  obtain ⟨s2, hs2⟩ : ∃ s, mk (eB m.ok) = s := ⟨_, rfl⟩
  have z1 : s1.size ≤ 70 := by
    rw [← hs1, mk_size]
    have := encs_len (heads m) hh
    simpa [heads] using this
  have z2 : s2.size ≤ 1 := by rw [← hs2]; exact Nat.le_refl 1
  have q1 : ¬ 9223372036854775807 < s1.size + s2.size := by omega
  have HE : Hid (s1 ++ s2 = mk (encs (heads m) ++ eB m.ok)) := hid (by rw [← hs1, ← hs2, mk_append])
  rw [hs1] at H1
  rw [hs2] at H2
  have HCs : Hid (∀ wx, Below wB.heap.size wB wx → (wx.cell? ⟨w.heap.size, 0, none⟩ = some (.int .i64 m.kind) ∧ wx.cell? ⟨w.heap.size, 1, none⟩ = some (.int .i64 m.fr) ∧ wx.cell? ⟨w.heap.size, 2, none⟩ = some (.int .i64 m.to_) ∧ wx.cell? ⟨w.heap.size, 3, none⟩ = some (.int .i64 m.term) ∧ wx.cell? ⟨w.heap.size, 4, none⟩ = some (.int .i64 m.index) ∧ wx.cell? ⟨w.heap.size, 5, none⟩ = some (.int .i64 m.logTerm) ∧ wx.cell? ⟨w.heap.size, 6, none⟩ = some (.int .i64 m.commit) ∧ wx.cell? ⟨w.heap.size, 7, none⟩ = some (.bool m.ok)) ∧ Below wB.heap.size wB wx) := hid (fun wx h => by
    have o := obx.same (h.block _ obx.lt)
    exact ⟨⟨(o.cell 0).trans rfl, (o.cell 1).trans rfl, (o.cell 2).trans rfl, (o.cell 3).trans rfl, (o.cell 4).trans rfl, (o.cell 5).trans rfl, (o.cell 6).trans rfl, (o.cell 7).trans rfl⟩, h⟩)
  have hbd : Below wB.heap.size wB wB.drew := Below.drew (Below.refl _ _)
  have HPoss : Hid (∀ wx, Below wB.heap.size wB wx → Below w.heap.size w wx) := hid (fun wx h => hbB.trans (h.mono hbB.size))
  have HAl : Hid (∀ wx cs T, Below wB.heap.size wB wx → Below wB.heap.size wB ((wx.alloc (.cells cs T)).drew)) := hid (fun wx cs T h => Below.drew (h.alloc h.size _))
  have HUp : Hid (∀ w3, Below wB.heap.size wB w3 → Below wB.heap.size wB w3) := hid (fun w3 h => h)
  have HRf := hid (Below.refl wB.heap.size wB)
  clear hs1 hs2 z1 z2 hm hh hbB obx
  unfold msV
  unfold msCells at *
  go_enter Try.func23, Try.ntmps23
  go_wp2
  clear hwB
  go_region_held3 (fun wx => (wx.cell? ⟨w.heap.size, 0, none⟩ = some (.int .i64 m.kind) ∧ wx.cell? ⟨w.heap.size, 1, none⟩ = some (.int .i64 m.fr) ∧ wx.cell? ⟨w.heap.size, 2, none⟩ = some (.int .i64 m.to_) ∧ wx.cell? ⟨w.heap.size, 3, none⟩ = some (.int .i64 m.term) ∧ wx.cell? ⟨w.heap.size, 4, none⟩ = some (.int .i64 m.index) ∧ wx.cell? ⟨w.heap.size, 5, none⟩ = some (.int .i64 m.logTerm) ∧ wx.cell? ⟨w.heap.size, 6, none⟩ = some (.int .i64 m.commit) ∧ wx.cell? ⟨w.heap.size, 7, none⟩ = some (.bool m.ok)) ∧ Below wB.heap.size wB wx)
    (first | (with_reducible exact HCs.out _ hbk) | (with_reducible exact HCs.out _ hbd) | (with_reducible exact HCs.out _ (HAl.out _ _ _ HRf.out)) | (with_reducible assumption))
    (first
      | (go_at_call 37; (with_reducible refine (H1.out _ _ rfl).mono ?_); rintro e w3 ⟨rfl, hb3⟩; have hbk : Below wB.heap.size wB w3 := HUp.out _ hb3)
      | (go_at_call 44; (with_reducible refine (H2.out _).mono ?_); rintro e w3 ⟨rfl, rfl⟩))
  all_goals
    have HFN := hid (HPoss.out _ hbk)
    clear hbk
    go_wp2
    go_ret
    exact ⟨by rw [← HE.out]; rfl, HFN.out⟩
end Go.Proofs.Ytppjojjejabaeaa
