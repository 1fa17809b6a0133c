/-
  LAYER 7 (msg), THE PROGRAM: base.
-/
import Derived.Test.YtppjojjejabaeaaMsPrG
namespace Go.Proofs.Ytppjojjejabaeaa
open Go.RowKit
set_option linter.unusedVariables false
set_option maxRecDepth 100000

/-- A base's bytes. -/
def eBs (m : Ms) : List UInt8 := encs [m.bi, m.bt] ++ eV m.vot ++ txt m.bd.data.toList
set_option maxHeartbeats 4000000 in
theorem base_any {w : World} (m : Ms) (vv : Value) (hv : RAt numTy w vv m.vot) (hr : MsB m) :
    Calls Try.prog 25 #[.agg #[.int .i64 m.bi, .int .i64 m.bt, vv, .string m.bd]] w (StrPost w (eBs m)) := by
  obtain ⟨va, vc, rfl, _⟩ := nums_at hv
  have hvl : m.vot.length ≤ 9 := hr.vl
  have hbd4 : m.bd.size ≤ 4000000 := hr.bd
  obtain ⟨wB, hwB⟩ : ∃ wB, w.alloc (.cells #[.int .i64 m.bi, .int .i64 m.bt, .slice va m.vot.length vc, .string m.bd] 25) = wB := ⟨_, rfl⟩
  have hbB : Below w.heap.size w wB := by rw [← hwB]; exact (Below.refl _ _).alloc (Nat.le_refl _) _
  have obx : own wB w.heap.size #[.int .i64 m.bi, .int .i64 m.bt, .slice va m.vot.length vc, .string m.bd] 25 := by rw [← hwB]; exact own.new w _ _
  have H1 : Hid (∀ wy g, own wy g #[.int .i64 m.bi, .int .i64 m.bt] 3 → Calls Try.prog 37 #[.slice (some ⟨g, 0, none⟩) 2 2] wy fun e w' => e = .returned (.string (mk (encs [m.bi, m.bt]))) ∧ Below wy.heap.size wy w') := hid (fun wy g h => pInts_own [m.bi, m.bt] wy g 2 _ h rfl rfl (by intro n hn; simp at hn; rcases hn with rfl | rfl; exact hr.bi; exact hr.bt) (by omega))
  have H2 : Hid (∀ wx, Below wB.heap.size wB wx → Calls Try.prog 15 #[.slice va m.vot.length vc] wx fun e w' => e = .returned (.string (mk (eV m.vot))) ∧ Below wx.heap.size wx w') := hid (fun wx h => voters_any ((hv.below hbB).below h) hr.vot (by omega))
  have H3 : Hid (∀ wy g, own wy g #[.string m.bd] 9 → Calls Try.prog 26 #[.slice (some ⟨g, 0, none⟩) 1 1] wy fun e w' => e = .returned (.string (mk (txt m.bd.data.toList))) ∧ Below wy.heap.size wy w') := hid (fun wy g h => pText_own m.bd wy g h hbd4)
  obtain ⟨s1, hs1⟩ : ∃ s, mk (encs [m.bi, m.bt]) = s := ⟨_, rfl⟩
  obtain ⟨s2, hs2⟩ : ∃ s, mk (eV m.vot) = s := ⟨_, rfl⟩
  obtain ⟨s3, hs3⟩ : ∃ s, mk (txt m.bd.data.toList) = s := ⟨_, rfl⟩
  have z1 : s1.size ≤ 20 := by
    rw [← hs1, mk_size]
    have := encs_len [m.bi, m.bt] (by intro n hn; simp at hn; rcases hn with rfl | rfl; exact hr.bi; exact hr.bt)
    simpa using this
  have z2 : s2.size ≤ 100 := by
    rw [← hs2, mk_size]
    unfold eV
    rw [List.length_append]
    have h2 := encs_len m.vot hr.vot
    have h3 := eI_len (n := (m.vot.length : Int)) ⟨by omega, by omega⟩
    omega
  have z3 : s3.size ≤ 4000010 := by rw [← hs3, mk_size]; exact txt_len hr.bd
  have q1 : ¬ 9223372036854775807 < s1.size + s2.size := by omega
  have q2 : ¬ 9223372036854775807 < s1.size + s2.size + s3.size := by omega
  have HE : Hid (s1 ++ s2 ++ s3 = mk (eBs m)) := hid (by rw [← hs1, ← hs2, ← hs3, mk_append, mk_append]; rfl)
  rw [hs1] at H1
  rw [hs2] at H2
  rw [hs3] at H3
  have HCs : Hid (∀ wx, Below wB.heap.size wB wx → (wx.cell? ⟨w.heap.size, 0, none⟩ = some (.int .i64 m.bi) ∧ wx.cell? ⟨w.heap.size, 1, none⟩ = some (.int .i64 m.bt) ∧ wx.cell? ⟨w.heap.size, 2, none⟩ = some (.slice va m.vot.length vc) ∧ wx.cell? ⟨w.heap.size, 3, none⟩ = some (.string m.bd)) ∧ Below wB.heap.size wB wx) := hid (fun wx h => by
    have o := obx.same (h.block _ obx.lt)
    exact ⟨⟨(o.cell 0).trans rfl, (o.cell 1).trans rfl, (o.cell 2).trans rfl, (o.cell 3).trans rfl⟩, h⟩)
  have hbd : Below wB.heap.size wB wB.drew := Below.drew (Below.refl _ _)
  have HPoss : Hid (∀ wx, Below wB.heap.size wB wx → Below w.heap.size w wx) := hid (fun wx h => hbB.trans (h.mono hbB.size))
  have HAl : Hid (∀ wx cs T, Below wB.heap.size wB wx → Below wB.heap.size wB ((wx.alloc (.cells cs T)).drew)) := hid (fun wx cs T h => Below.drew (h.alloc h.size _))
  have HDr : Hid (∀ wx, Below wB.heap.size wB wx → Below wB.heap.size wB wx.drew) := hid (fun wx h => Below.drew h)
  have HAm : Hid (∀ wx cs T, Below wB.heap.size wB wx → Below wB.heap.size wB (wx.alloc (.cells cs T))) := hid (fun wx cs T h => (h.alloc h.size _))
  have HTr : Hid (∀ wx wy, Below wB.heap.size wB wx → Below wx.heap.size wx wy → Below wB.heap.size wB wy) := hid (fun wx wy h k => h.trans (k.mono h.size))
  have HRf := hid (Below.refl wB.heap.size wB)
  clear hs1 hs2 hs3 z1 z2 z3 hv hr hbB obx hvl hbd4
  go_enter Try.func25, Try.ntmps25
  go_wp2
  clear hwB
  go_region_held3 (fun wx => (wx.cell? ⟨w.heap.size, 0, none⟩ = some (.int .i64 m.bi) ∧ wx.cell? ⟨w.heap.size, 1, none⟩ = some (.int .i64 m.bt) ∧ wx.cell? ⟨w.heap.size, 2, none⟩ = some (.slice va m.vot.length vc) ∧ wx.cell? ⟨w.heap.size, 3, none⟩ = some (.string m.bd)) ∧ Below wB.heap.size wB wx)
    (first | (with_reducible exact HCs.out _ hbk) | (with_reducible (refine HCs.out _ ?_; repeat (first | exact HRf.out | exact And.right (by assumption) | refine HDr.out _ ?_ | refine HAm.out _ _ _ ?_))) | (with_reducible assumption))
    (first
      | (go_at_call 37; (with_reducible refine (H1.out _ _ (by with_reducible (repeat (first | exact own.new _ _ _ | exact own.nw (by simp; done) | refine own.dr ?_ | refine own.al _ ?_ | refine own.be hbv ?_ | refine own.be hbi ?_)))).mono ?_); rintro e w3 ⟨rfl, hbi⟩; have hbk : Below wB.heap.size wB w3 := HTr.out _ _ (And.right (by assumption)) hbi)
      | (go_at_call 15; (with_reducible refine (H2.out _ (And.right (by assumption))).mono ?_); rintro e w3 ⟨rfl, hbv⟩; have hbk : Below wB.heap.size wB w3 := HTr.out _ _ (And.right (by assumption)) hbv)
      | (go_at_call 26; (with_reducible refine (H3.out _ _ (by with_reducible (repeat (first | exact own.new _ _ _ | exact own.nw (by simp; done) | refine own.dr ?_ | refine own.al _ ?_ | refine own.be hbv ?_ | refine own.be hbi ?_)))).mono ?_); rintro e w3 ⟨rfl, hb3⟩; have hbk : Below wB.heap.size wB w3 := HTr.out _ _ (And.right (by assumption)) hb3))
  all_goals
    have HFN := hid (HPoss.out _ hbk)
    clear hbk
    go_wp2
    go_ret
    exact ⟨by rw [← HE.out]; rfl, HFN.out⟩
end Go.Proofs.Ytppjojjejabaeaa
