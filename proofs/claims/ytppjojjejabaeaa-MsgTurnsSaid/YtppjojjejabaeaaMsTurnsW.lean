/-
  LAYER 7 (msg): MsgTurns: its walk.
-/
import Derived.Test.YtppjojjejabaeaaMsProg
import Derived.Deep.DeepCutAuto
namespace Go.Proofs.Ytppjojjejabaeaa
open Go.RowKit
set_option linter.unusedVariables false
set_option maxRecDepth 100000

def turnM (m : Ms) : Ms := { m with fr := m.to_, to_ := m.fr, ok := !m.ok }
def nextM (m : Ms) : Ms := { m with term := m.term + 1 }
theorem turn_right {m : Ms} (h : rightM m = true) : rightM (turnM m) = true := by
  unfold rightM turnM at *
  simp only [Bool.and_eq_true, decide_eq_true_eq] at *
  obtain ⟨⟨⟨⟨⟨⟨⟨h1, h2⟩, ⟨⟨h3, h4⟩, h5⟩, h6⟩, h7⟩, h8⟩, h9⟩, h10⟩, h11⟩ := h
  exact ⟨⟨⟨⟨⟨⟨⟨h1, h2⟩, ⟨⟨h5, h6⟩, h3⟩, h4⟩, h7⟩, h8⟩, h9⟩, h10⟩, h11⟩
theorem turn_len (m : Ms) : (eM (turnM m)).length = (eM m).length := by
  simp [eM, turnM, encs, heads, eB]
  omega
theorem turn_ne {m : Ms} (h : rightM m = true) : eM m ≠ eM (turnM m) := by
  intro e
  have h1 := (unpackN_iff (eM m) m).2 ⟨h, rfl⟩
  have h2 := (unpackN_iff (eM m) (turnM m)).2 ⟨turn_right h, e⟩
  rw [h1] at h2
  have h3 := congrArg Ms.ok (Option.some.inj h2)
  unfold turnM at h3
  cases hb : m.ok <;> simp [hb] at h3
theorem next_right {m : Ms} (h : rightM m = true) : rightM (nextM m) = decide (m.term < 1099511627776) := by
  have h0 := h
  unfold rightM at h
  simp only [Bool.and_eq_true, decide_eq_true_eq] at h
  obtain ⟨⟨⟨⟨⟨⟨⟨h1, h2⟩, h3⟩, ⟨⟨⟨⟨⟨ha, hb⟩, hc⟩, hd⟩, he⟩, hf⟩⟩, h8⟩, h9⟩, h10⟩, h11⟩ := h
  have ht : inN (m.term + 1) = decide (m.term < 1099511627776) := by
    unfold inN at *
    simp only [Bool.and_eq_true, decide_eq_true_eq] at ha
    by_cases q : m.term < 1099511627776
    · rw [decide_eq_true q, decide_eq_true (by omega : 0 ≤ m.term + 1), decide_eq_true (by omega : m.term + 1 ≤ 1099511627776)]; rfl
    · rw [decide_eq_false q, decide_eq_false (by omega : ¬ m.term + 1 ≤ 1099511627776)]; simp
  unfold rightM nextM
  simp only [ht, h1, h2, h3, hb, hc, hd, he, hf, h8, h9, h10, h11, decide_true, Bool.true_and, Bool.and_true]
theorem right_term {m : Ms} (h : rightM m = true) : 0 ≤ m.term ∧ m.term ≤ 1099511627776 := by
  unfold rightM at h
  simp only [Bool.and_eq_true, decide_eq_true_eq] at h
  obtain ⟨⟨⟨⟨⟨⟨⟨h1, h2⟩, h3⟩, ⟨⟨⟨⟨⟨ha, hb⟩, hc⟩, hd⟩, he⟩, hf⟩⟩, h8⟩, h9⟩, h10⟩, h11⟩ := h
  unfold inN at ha
  simp only [Bool.and_eq_true, decide_eq_true_eq] at ha
  exact ha
theorem msIn_swap {m : Ms} (h : MsIn m) : MsIn (turnM m) := by
  refine ⟨fun n hn => h.heads n ?_, h.ents, h.el, h.bi, h.bt, h.vot, h.vl, h.bd, h.dt⟩
  have hn : n ∈ [m.kind, m.to_, m.fr, m.term, m.index, m.logTerm, m.commit] := hn
  show n ∈ [m.kind, m.fr, m.to_, m.term, m.index, m.logTerm, m.commit]
  simp only [List.mem_cons, List.not_mem_nil, or_false] at hn
  rcases hn with e | e | e | e | e | e | e <;> simp [e]
theorem msIn_next {m : Ms} (h : MsIn m) (hr : rightM m = true) : MsIn (nextM m) := by
  refine ⟨fun n hn => ?_, h.ents, h.el, h.bi, h.bt, h.vot, h.vl, h.bd, h.dt⟩
  have ht := right_term hr
  have hn : n ∈ [m.kind, m.fr, m.to_, m.term + 1, m.index, m.logTerm, m.commit] := hn
  simp only [List.mem_cons, List.not_mem_nil, or_false] at hn
  rcases hn with e | e | e | e | e | e | e
  · exact h.heads n (by simp [heads, e])
  · exact h.heads n (by simp [heads, e])
  · exact h.heads n (by simp [heads, e])
  · subst e; exact ⟨by omega, by omega⟩
  · exact h.heads n (by simp [heads, e])
  · exact h.heads n (by simp [heads, e])
  · exact h.heads n (by simp [heads, e])
set_option maxHeartbeats 8000000 in
theorem msgTurns_walk (HP : MsProg) (m : Ms) (ev vv : Value) (w : World) (hm : MsAt w m ev vv) (hi : MsIn m) : Calls Try.prog 8 #[msV m ev vv] w (ShownPost w) := by
  obtain ⟨wB, hwB⟩ : ∃ wB, w.alloc (.cells (msCells m ev vv) 27) = wB := ⟨_, rfl⟩
  have hbB : Below w.heap.size w wB := by rw [← hwB]; exact (Below.refl _ _).alloc (Nat.le_refl _) _
  have obx : own wB w.heap.size (msCells m ev vv) 27 := by rw [← hwB]; exact own.new w _ _
  have hat := hm.below hbB
  have hzB : w.heap.size < wB.heap.size := by rw [← hwB]; simp
  have HPoss : Hid (∀ wx, Below wB.heap.size wB wx → ShownPost w (.returned (.bool true)) wx) := hid (fun wx h => ⟨rfl, hbB.trans (h.mono (by omega))⟩)
  have HBx := hid (fun wx (h : Below wB.heap.size wB wx) => msBox_of (obx.same (h.block _ obx.lt)))
  have HS := hid (shown_any HP wB)
  have HSm : Hid (∀ wx, Below wB.heap.size wB wx → Calls Try.prog 10 #[.agg #[.int .i64 m.kind, .int .i64 m.fr, .int .i64 m.to_, .int .i64 m.term, .int .i64 m.index, .int .i64 m.logTerm, .int .i64 m.commit, .bool m.ok, ev, .int .i64 m.bi, .int .i64 m.bt, vv, .string m.bd, .string m.dt]] wx fun e w' => e = .returned (.bool (smallM m)) ∧ Below wB.heap.size wB w') := hid (fun wx h => (small_any m ev vv (hat.below h) hi).mono fun e w' ⟨he, hb⟩ => ⟨he, h.trans (hb.mono h.size)⟩)
  have HR : Hid (∀ wx, Below wB.heap.size wB wx → Calls Try.prog 13 #[.agg #[.int .i64 m.kind, .int .i64 m.fr, .int .i64 m.to_, .int .i64 m.term, .int .i64 m.index, .int .i64 m.logTerm, .int .i64 m.commit, .bool m.ok, ev, .int .i64 m.bi, .int .i64 m.bt, vv, .string m.bd, .string m.dt]] wx fun e w' => e = .returned (.bool (rightM m)) ∧ Below wB.heap.size wB w') := hid (fun wx h => (HP.right m ev vv (hat.below h) hi).mono fun e w' ⟨he, hb⟩ => ⟨he, h.trans (hb.mono h.size)⟩)
  have HPk : Hid (m.vot.length ≤ 1000000 → ∀ wx (m' : Ms), m'.ents = m.ents → m'.vot = m.vot → MsIn m' → rightM m' = true → Below wB.heap.size wB wx → Calls Try.prog 11 #[msV m' ev vv] wx fun e w' => e = .returned (.tuple #[.string (mk (eM m')), .int .i64 0]) ∧ Below wB.heap.size wB w' ∧ Below wx.heap.size wx w') := hid (fun hvl wx m' e1 e2 hi' hr' h => by
    have h1 := hat.below h
    refine (HP.pack m' ev vv ⟨by rw [e1]; exact h1.ents, by rw [e2]; exact h1.vot⟩ hi' (by rw [e2]; exact hvl)).mono fun e w' hp => ?_
    obtain ⟨he, hb⟩ := hp
    unfold packN at he
    rw [if_pos hr'] at he
    exact ⟨he, h.trans (hb.mono h.size), hb⟩)
  have HPy : Hid (rightM m = true → m.vot.length ≤ 1000000 → ∀ wx, Below wB.heap.size wB wx → Calls Try.prog 11 #[msV (nextM m) ev vv] wx fun e w' => ∃ S, e = .returned (.tuple #[.string S, .int .i64 (if m.term < 1099511627776 then 0 else 1)]) ∧ Below wB.heap.size wB w') := hid (fun hr hvl wx h => by
    have h1 := hat.below h
    refine (HP.pack (nextM m) ev vv ⟨h1.ents, h1.vot⟩ (msIn_next hi hr) hvl).mono fun e w' hp => ?_
    obtain ⟨he, hb⟩ := hp
    have hp2 : (packN (nextM m)).2 = (if m.term < 1099511627776 then 0 else 1) := by
      unfold packN
      rw [next_right hr]
      by_cases q : m.term < 1099511627776
      · rw [decide_eq_true q, if_pos rfl, if_pos q]
      · rw [decide_eq_false q, if_neg q]; rfl
    rw [hp2] at he
    exact ⟨_, he, h.trans (hb.mono h.size)⟩)
  have hBr := hid hbB
  have HI := hid hi
  obtain ⟨ea, ec, rfl, _⟩ := ents_at hat.ents
  obtain ⟨va, vc, rfl, _⟩ := nums_at hat.vot
  have HAt := hid hat
  clear hm hi hat
  obtain ⟨k0, k1, k2, k3, k4, k5, k6, k7, k8, k9, k10, k11, k12, k13⟩ := HBx.out _ (Below.refl _ wB)
  have HW := hid hwB
  obtain ⟨bs, hbs⟩ : ∃ bs, smallM m = bs := ⟨_, rfl⟩
  obtain ⟨br, hbr⟩ : ∃ br, rightM m = br := ⟨_, rfl⟩
  rw [hbs] at HSm
  rw [hbr] at HR
  have HBS := hid hbs
  have HBR := hid hbr
  clear hbs hbr obx hzB hbB HP
  unfold msV
  unfold msCells at *
  cases bs with
  | false =>
    clear HPk HPy
    go_enter Try.func8, Try.ntmps8
    go_wp2_with (first
      | (go_at_call 9; (with_reducible refine HS.out.mono ?_); rintro e w1 ⟨rfl, hb1⟩; obtain ⟨k0, k1, k2, k3, k4, k5, k6, k7, k8, k9, k10, k11, k12, k13⟩ := HBx.out _ hb1)
      | (go_at_call 10; (with_reducible refine (HSm.out _ hb1).mono ?_); rintro e w2 ⟨rfl, hb2⟩; obtain ⟨k0, k1, k2, k3, k4, k5, k6, k7, k8, k9, k10, k11, k12, k13⟩ := HBx.out _ hb2)
      | (go_at_call 13; (with_reducible refine (HR.out _ hb2).mono ?_); rintro e w3 ⟨rfl, hb3⟩))
    go_ret
    exact HPoss.out _ hb3
  | true =>
  cases br with
  | false =>
    clear HPk HPy
    go_enter Try.func8, Try.ntmps8
    go_wp2_with (first
      | (go_at_call 9; (with_reducible refine HS.out.mono ?_); rintro e w1 ⟨rfl, hb1⟩; obtain ⟨k0, k1, k2, k3, k4, k5, k6, k7, k8, k9, k10, k11, k12, k13⟩ := HBx.out _ hb1)
      | (go_at_call 10; (with_reducible refine (HSm.out _ hb1).mono ?_); rintro e w2 ⟨rfl, hb2⟩; obtain ⟨k0, k1, k2, k3, k4, k5, k6, k7, k8, k9, k10, k11, k12, k13⟩ := HBx.out _ hb2)
      | (go_at_call 13; (with_reducible refine (HR.out _ hb2).mono ?_); rintro e w3 ⟨rfl, hb3⟩))
    go_ret
    exact HPoss.out _ hb3
  | true =>
  have hr := HBR.out
  have hs := HBS.out
  have hvl : m.vot.length ≤ 1000000 := by
    unfold smallM at hs
    simp only [Bool.and_eq_true, decide_eq_true_eq] at hs
    omega
  have hP1 : ∀ wx, Below wB.heap.size wB wx → Calls Try.prog 11 #[.agg #[.int .i64 m.kind, .int .i64 m.fr, .int .i64 m.to_, .int .i64 m.term, .int .i64 m.index, .int .i64 m.logTerm, .int .i64 m.commit, .bool m.ok, .slice ea m.ents.length ec, .int .i64 m.bi, .int .i64 m.bt, .slice va m.vot.length vc, .string m.bd, .string m.dt]] wx fun e w' => e = .returned (.tuple #[.string (mk (eM m)), .int .i64 0]) ∧ Below wB.heap.size wB w' ∧ Below wx.heap.size wx w' := fun wx h => HPk.out hvl wx m rfl rfl HI.out hr h
  have hP2 : ∀ wx, Below wB.heap.size wB wx → Calls Try.prog 11 #[.agg #[.int .i64 (turnM m).kind, .int .i64 (turnM m).fr, .int .i64 (turnM m).to_, .int .i64 (turnM m).term, .int .i64 (turnM m).index, .int .i64 (turnM m).logTerm, .int .i64 (turnM m).commit, .bool (turnM m).ok, .slice ea m.ents.length ec, .int .i64 (turnM m).bi, .int .i64 (turnM m).bt, .slice va m.vot.length vc, .string (turnM m).bd, .string (turnM m).dt]] wx fun e w' => e = .returned (.tuple #[.string (mk (eM (turnM m))), .int .i64 0]) ∧ Below wB.heap.size wB w' ∧ Below wx.heap.size wx w' := fun wx h => HPk.out hvl wx (turnM m) rfl rfl (msIn_swap HI.out) (turn_right hr) h
  obtain ⟨c, hc⟩ : ∃ c : Int, (if m.term < 1099511627776 then 0 else 1) = c := ⟨_, rfl⟩
  rw [hc] at HPy
  have hP3 : ∀ wx, Below wB.heap.size wB wx → Calls Try.prog 11 #[.agg #[.int .i64 (nextM m).kind, .int .i64 (nextM m).fr, .int .i64 (nextM m).to_, .int .i64 (nextM m).term, .int .i64 (nextM m).index, .int .i64 (nextM m).logTerm, .int .i64 (nextM m).commit, .bool (nextM m).ok, .slice ea m.ents.length ec, .int .i64 (nextM m).bi, .int .i64 (nextM m).bt, .slice va m.vot.length vc, .string (nextM m).bd, .string (nextM m).dt]] wx fun e w' => ∃ S, e = .returned (.tuple #[.string S, .int .i64 c]) ∧ Below wB.heap.size wB w' := HPy.out hr hvl
  have qe : ((c == 0) == decide (m.term < 1099511627776)) = true := by
    rw [← hc]
    by_cases q : m.term < 1099511627776
    · rw [if_pos q, decide_eq_true q]; rfl
    · rw [if_neg q, decide_eq_false q]; rfl
  clear hc
  have hlen := turn_len m
  have hne := turn_ne hr
  obtain ⟨ht0, ht1⟩ := right_term hr
  obtain ⟨S1, hS1⟩ : ∃ S1, eM m = S1 := ⟨_, rfl⟩
  obtain ⟨S2, hS2⟩ : ∃ S2, eM (turnM m) = S2 := ⟨_, rfl⟩
  rw [hS1] at hP1 hlen hne
  rw [hS2] at hP2 hlen hne
  have HP1 := hid hP1
  have HP2 := hid hP2
  have HP3 := hid hP3
  have HX : Hid (∀ wx, Below wB.heap.size wB wx → (wx.alloc (.cells #[.int .i64 m.kind, .int .i64 m.fr, .int .i64 m.to_, .int .i64 m.term, .int .i64 m.index, .int .i64 m.logTerm, .int .i64 m.commit, .bool m.ok, .slice ea m.ents.length ec, .int .i64 m.bi, .int .i64 m.bt, .slice va m.vot.length vc, .string m.bd, .string m.dt] 27)).cell? ⟨w.heap.size, 2, none⟩ = some (.int .i64 m.to_) ∧ (wx.alloc (.cells #[.int .i64 m.kind, .int .i64 m.to_, .int .i64 m.to_, .int .i64 m.term, .int .i64 m.index, .int .i64 m.logTerm, .int .i64 m.commit, .bool m.ok, .slice ea m.ents.length ec, .int .i64 m.bi, .int .i64 m.bt, .slice va m.vot.length vc, .string m.bd, .string m.dt] 27)).cell? ⟨w.heap.size, 1, none⟩ = some (.int .i64 m.fr) ∧ (wx.alloc (.cells #[.int .i64 m.kind, .int .i64 m.to_, .int .i64 m.fr, .int .i64 m.term, .int .i64 m.index, .int .i64 m.logTerm, .int .i64 m.commit, .bool m.ok, .slice ea m.ents.length ec, .int .i64 m.bi, .int .i64 m.bt, .slice va m.vot.length vc, .string m.bd, .string m.dt] 27)).cell? ⟨w.heap.size, 7, none⟩ = some (.bool m.ok) ∧ MsBox (wx.alloc (.cells #[.int .i64 m.kind, .int .i64 m.to_, .int .i64 m.fr, .int .i64 m.term, .int .i64 m.index, .int .i64 m.logTerm, .int .i64 m.commit, .bool (!m.ok), .slice ea m.ents.length ec, .int .i64 m.bi, .int .i64 m.bt, .slice va m.vot.length vc, .string m.bd, .string m.dt] 27)) wx.heap.size (turnM m) (.slice ea m.ents.length ec) (.slice va m.vot.length vc) ∧ MsBox (wx.alloc (.cells #[.int .i64 m.kind, .int .i64 m.to_, .int .i64 m.fr, .int .i64 m.term, .int .i64 m.index, .int .i64 m.logTerm, .int .i64 m.commit, .bool (!m.ok), .slice ea m.ents.length ec, .int .i64 m.bi, .int .i64 m.bt, .slice va m.vot.length vc, .string m.bd, .string m.dt] 27)) w.heap.size m (.slice ea m.ents.length ec) (.slice va m.vot.length vc) ∧ Below wB.heap.size wB (wx.alloc (.cells #[.int .i64 m.kind, .int .i64 m.to_, .int .i64 m.fr, .int .i64 m.term, .int .i64 m.index, .int .i64 m.logTerm, .int .i64 m.commit, .bool (!m.ok), .slice ea m.ents.length ec, .int .i64 m.bi, .int .i64 m.bt, .slice va m.vot.length vc, .string m.bd, .string m.dt] 27))) := hid (fun wx h =>
    ⟨(HBx.out _ (h.alloc h.size _)).c2, (HBx.out _ (h.alloc h.size _)).c1, (HBx.out _ (h.alloc h.size _)).c7, msBox_of (m := turnM m) (own.new wx _ _), HBx.out _ (h.alloc h.size _), h.alloc h.size _⟩)
  have HY : Hid (∀ wx, Below wB.heap.size wB wx → (wx.alloc (.cells #[.int .i64 m.kind, .int .i64 m.fr, .int .i64 m.to_, .int .i64 m.term, .int .i64 m.index, .int .i64 m.logTerm, .int .i64 m.commit, .bool m.ok, .slice ea m.ents.length ec, .int .i64 m.bi, .int .i64 m.bt, .slice va m.vot.length vc, .string m.bd, .string m.dt] 27)).cell? ⟨w.heap.size, 3, none⟩ = some (.int .i64 m.term) ∧ MsBox (wx.alloc (.cells #[.int .i64 m.kind, .int .i64 m.fr, .int .i64 m.to_, .int .i64 (m.term + 1), .int .i64 m.index, .int .i64 m.logTerm, .int .i64 m.commit, .bool m.ok, .slice ea m.ents.length ec, .int .i64 m.bi, .int .i64 m.bt, .slice va m.vot.length vc, .string m.bd, .string m.dt] 27)) wx.heap.size (nextM m) (.slice ea m.ents.length ec) (.slice va m.vot.length vc) ∧ Below wB.heap.size wB (wx.alloc (.cells #[.int .i64 m.kind, .int .i64 m.fr, .int .i64 m.to_, .int .i64 (m.term + 1), .int .i64 m.index, .int .i64 m.logTerm, .int .i64 m.commit, .bool m.ok, .slice ea m.ents.length ec, .int .i64 m.bi, .int .i64 m.bt, .slice va m.vot.length vc, .string m.bd, .string m.dt] 27))) := hid (fun wx h =>
    ⟨(HBx.out _ (h.alloc h.size _)).c3, msBox_of (m := nextM m) (own.new wx _ _), h.alloc h.size _⟩)
  have HXL : Hid (∀ wx wz, Below wB.heap.size wB wx → Below (wx.alloc (.cells #[.int .i64 m.kind, .int .i64 m.to_, .int .i64 m.fr, .int .i64 m.term, .int .i64 m.index, .int .i64 m.logTerm, .int .i64 m.commit, .bool (!m.ok), .slice ea m.ents.length ec, .int .i64 m.bi, .int .i64 m.bt, .slice va m.vot.length vc, .string m.bd, .string m.dt] 27)).heap.size (wx.alloc (.cells #[.int .i64 m.kind, .int .i64 m.to_, .int .i64 m.fr, .int .i64 m.term, .int .i64 m.index, .int .i64 m.logTerm, .int .i64 m.commit, .bool (!m.ok), .slice ea m.ents.length ec, .int .i64 m.bi, .int .i64 m.bt, .slice va m.vot.length vc, .string m.bd, .string m.dt] 27)) wz → MsBox wz wx.heap.size (turnM m) (.slice ea m.ents.length ec) (.slice va m.vot.length vc)) := hid (fun wx wz h hz => msBox_of (m := turnM m) ((own.new wx #[.int .i64 m.kind, .int .i64 m.to_, .int .i64 m.fr, .int .i64 m.term, .int .i64 m.index, .int .i64 m.logTerm, .int .i64 m.commit, .bool (!m.ok), .slice ea m.ents.length ec, .int .i64 m.bi, .int .i64 m.bt, .slice va m.vot.length vc, .string m.bd, .string m.dt] 27).same (hz.block _ (by simp))))
  have hW : IntKind.i64.wrap (m.term + 1) = m.term + 1 := IntWalk.i64_in _ (by omega)
  have q1 : (mk S1).size = (mk S2).size := by rw [← str_len, ← str_len, mk_data, mk_data]; exact hlen.symm
  have q2 : (!(mk S1).toList == (mk S2).toList) = true := by
    rw [Lib.toList_data, Lib.toList_data, mk_data, mk_data]
    simpa using hne
  clear hlen hne hS1 hS2 hP1 hP2 hP3 HPk HPy ht0 ht1 hr hs hvl
  go_enter Try.func8, Try.ntmps8
  go_wp2_with (first
    | (go_at_call 9; (with_reducible refine HS.out.mono ?_); rintro e w1 ⟨rfl, hb1⟩; obtain ⟨k0, k1, k2, k3, k4, k5, k6, k7, k8, k9, k10, k11, k12, k13⟩ := HBx.out _ hb1)
    | (go_at_call 10; (with_reducible refine (HSm.out _ hb1).mono ?_); rintro e w2 ⟨rfl, hb2⟩; obtain ⟨k0, k1, k2, k3, k4, k5, k6, k7, k8, k9, k10, k11, k12, k13⟩ := HBx.out _ hb2)
    | (go_at_call 13; (with_reducible refine (HR.out _ hb2).mono ?_); rintro e w3 ⟨rfl, hb3⟩; obtain ⟨k0, k1, k2, k3, k4, k5, k6, k7, k8, k9, k10, k11, k12, k13⟩ := HBx.out _ hb3; obtain ⟨r0, r1, r2, ⟨x0, x1, x2, x3, x4, x5, x6, x7, x8, x9, x10, x11, x12, x13⟩, ⟨l0, l1, l2, l3, l4, l5, l6, l7, l8, l9, l10, l11, l12, l13⟩, hb4⟩ := HX.out _ hb3)
    | (go_at_call 11; (with_reducible refine (HP1.out _ hb4).mono ?_); rintro e w5 ⟨rfl, hb5, hbx⟩; obtain ⟨x0, x1, x2, x3, x4, x5, x6, x7, x8, x9, x10, x11, x12, x13⟩ := HXL.out _ _ hb3 hbx; clear hbx)
    | (go_at_call 11; (with_reducible refine (HP2.out _ hb5).mono ?_); rintro e w6 ⟨rfl, hb6, hbx⟩; clear hbx; obtain ⟨k0, k1, k2, k3, k4, k5, k6, k7, k8, k9, k10, k11, k12, k13⟩ := HBx.out _ hb6; obtain ⟨z0, ⟨y0, y1, y2, y3, y4, y5, y6, y7, y8, y9, y10, y11, y12, y13⟩, hb7⟩ := HY.out _ hb6)
    | (go_at_call 11; (with_reducible refine (HP3.out _ hb7).mono ?_); rintro e w8 ⟨S, rfl, hb8⟩; obtain ⟨k0, k1, k2, k3, k4, k5, k6, k7, k8, k9, k10, k11, k12, k13⟩ := HBx.out _ hb8))
  go_ret
  exact HPoss.out _ hb8
end Go.Proofs.Ytppjojjejabaeaa
