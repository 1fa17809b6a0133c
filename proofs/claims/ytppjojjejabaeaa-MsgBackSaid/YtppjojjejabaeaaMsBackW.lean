/-
  LAYER 7 (msg): MsgBack: its walk. (Written by wip/tools/gen7_back.py.)
-/
import Derived.Test.YtppjojjejabaeaaMsReads
import Derived.Test.YtppjojjejabaeaaMsEndsW
namespace Go.Proofs.Ytppjojjejabaeaa
open Go.RowKit
set_option linter.unusedVariables false
set_option maxRecDepth 100000

theorem msIn_right {m : Ms} (h : rightM m = true) : MsIn m := by
  have hB := rightM_b h
  have h1 := hB.el
  have h2 := hB.vl
  have h3 := hB.bd
  have h4 := hB.dt
  have hm : maxLen = maxLen := rfl
  refine ⟨fun n hn => hB.heads n hn, fun e he => ?_, by unfold maxLen; omega, hB.bi, hB.bt, fun n hn => hB.vot n hn, by unfold maxLen; omega, by unfold maxLen; omega, by unfold maxLen; omega⟩
  obtain ⟨a, b, c, d⟩ := hB.ents e he
  exact ⟨a, b, c, by unfold maxLen; omega⟩
set_option maxHeartbeats 8000000 in
theorem msgBack_NR (HP : MsProg) (m : Ms) (ev vv v2 : Value) (s : ByteArray) (xs : List Int) (w : World) (hm : MsAt w m ev vv) (hi : MsIn m) (hsz : s.size ≤ maxLen) (hx : RAt numTy w v2 xs) (hxi : ∀ x ∈ xs, I64' x) (hxl : xs.length ≤ maxLen) (hsm : smallM m = true) (hl : s.size ≤ 3000) (hl2 : xs.length ≤ 9) (hr : rightM m = true) (hu : unpackN s.data.toList = none) :
    Calls Try.prog 5 #[msV m ev vv, .string s, v2] w (ShownPost w) := by
  obtain ⟨wB, hwB⟩ : ∃ wB, w.alloc (.cells (msCells m ev vv) 27) = wB := ⟨_, rfl⟩
  have hbB : Below w.heap.size w wB := by rw [← hwB]; exact (Below.refl _ _).alloc (Nat.le_refl _) _
  have obx : own wB w.heap.size (msCells m ev vv) 27 := by rw [← hwB]; exact own.new w _ _
  have hat := hm.below hbB
  have hxB := hx.below hbB
  have hzB : w.heap.size < wB.heap.size := by rw [← hwB]; simp
  have HPoss : Hid (∀ wx, Below wB.heap.size wB wx → ShownPost w (.returned (.bool true)) wx) := hid (fun wx h => ⟨rfl, hbB.trans (h.mono (by omega))⟩)
  have HBx := hid (fun wx (h : Below wB.heap.size wB wx) => msBox_of (obx.same (h.block _ obx.lt)))
  have HS := hid (shown_any HP wB)
  have HSm : Hid (∀ wx, Below wB.heap.size wB wx → Calls Try.prog 10 #[.agg #[.int .i64 m.kind, .int .i64 m.fr, .int .i64 m.to_, .int .i64 m.term, .int .i64 m.index, .int .i64 m.logTerm, .int .i64 m.commit, .bool m.ok, ev, .int .i64 m.bi, .int .i64 m.bt, vv, .string m.bd, .string m.dt]] wx fun e w' => e = .returned (.bool (smallM m)) ∧ Below wB.heap.size wB w') := hid (fun wx h => (small_any m ev vv (hat.below h) hi).mono fun e w' ⟨he, hb⟩ => ⟨he, h.trans (hb.mono h.size)⟩)
  obtain ⟨S, c, hSc⟩ : ∃ S c, packN m = (S, c) := ⟨_, _, rfl⟩
  have HP1 : Hid (m.vot.length ≤ 1000000 → ∀ wx, Below wB.heap.size wB wx → Calls Try.prog 11 #[.agg #[.int .i64 m.kind, .int .i64 m.fr, .int .i64 m.to_, .int .i64 m.term, .int .i64 m.index, .int .i64 m.logTerm, .int .i64 m.commit, .bool m.ok, ev, .int .i64 m.bi, .int .i64 m.bt, vv, .string m.bd, .string m.dt]] wx fun e w' => e = .returned (.tuple #[.string (mk S), .int .i64 c]) ∧ Below wB.heap.size wB w') := hid (fun hvl wx h => (HP.pack m ev vv (hat.below h) hi hvl).mono fun e w' ⟨he, hb⟩ => ⟨by rw [he, hSc], h.trans (hb.mono h.size)⟩)
  have HV1 : Hid (xs.length ≤ 1000000 → ∀ wx, Below wB.heap.size wB wx → Calls Try.prog 15 #[v2] wx fun e w' => e = .returned (.string (mk (eV xs))) ∧ Below wB.heap.size wB w') := hid (fun hl wx h => (HP.voters (hxB.below h) hxi hl).mono fun e w' ⟨he, hb⟩ => ⟨he, h.trans (hb.mono h.size)⟩)
  obtain ⟨ea, ec, rfl, _⟩ := ents_at hat.ents
  obtain ⟨va, vc, rfl, _⟩ := nums_at hat.vot
  obtain ⟨xa, xc, rfl, _⟩ := nums_at hxB
  have HSi : Hid (∀ ya wx, Below wB.heap.size wB wx → RAt numTy wx ya xs → Calls Try.prog 22 #[ya, .slice xa xs.length xc] wx fun e w' => e = .returned (.bool true) ∧ Below wB.heap.size wB w') := hid (fun ya wx h hr => (sameInts_same hr (hxB.below h) hxl).mono fun e w' ⟨he, hb⟩ => ⟨he, h.trans (hb.mono h.size)⟩)
  have HX : Hid (∀ w4 ea1 ec1 va1 vc1, Below wB.heap.size wB w4 → MsAt w4 m (.slice ea1 m.ents.length ec1) (.slice va1 m.vot.length vc1) → MsBox (w4.alloc (.cells #[.int .i64 m.kind, .int .i64 m.fr, .int .i64 m.to_, .int .i64 m.term, .int .i64 m.index, .int .i64 m.logTerm, .int .i64 m.commit, .bool m.ok, .slice ea1 m.ents.length ec1, .int .i64 m.bi, .int .i64 m.bt, .slice va1 m.vot.length vc1, .string m.bd, .string m.dt] 27)) w.heap.size m (.slice ea m.ents.length ec) (.slice va m.vot.length vc) ∧
      Hid (Calls Try.prog 20 #[.agg #[.int .i64 m.kind, .int .i64 m.fr, .int .i64 m.to_, .int .i64 m.term, .int .i64 m.index, .int .i64 m.logTerm, .int .i64 m.commit, .bool m.ok, .slice ea1 m.ents.length ec1, .int .i64 m.bi, .int .i64 m.bt, .slice va1 m.vot.length vc1, .string m.bd, .string m.dt], .agg #[.int .i64 m.kind, .int .i64 m.fr, .int .i64 m.to_, .int .i64 m.term, .int .i64 m.index, .int .i64 m.logTerm, .int .i64 m.commit, .bool m.ok, .slice ea m.ents.length ec, .int .i64 m.bi, .int .i64 m.bt, .slice va m.vot.length vc, .string m.bd, .string m.dt]] (w4.alloc (.cells #[.int .i64 m.kind, .int .i64 m.fr, .int .i64 m.to_, .int .i64 m.term, .int .i64 m.index, .int .i64 m.logTerm, .int .i64 m.commit, .bool m.ok, .slice ea1 m.ents.length ec1, .int .i64 m.bi, .int .i64 m.bt, .slice va1 m.vot.length vc1, .string m.bd, .string m.dt] 27)) fun e w' => e = .returned (.bool true) ∧ Below wB.heap.size wB w')) := hid (fun w4 ea1 ec1 va1 vc1 h ha => by
    have hb := h.alloc h.size (.cells #[.int .i64 m.kind, .int .i64 m.fr, .int .i64 m.to_, .int .i64 m.term, .int .i64 m.index, .int .i64 m.logTerm, .int .i64 m.commit, .bool m.ok, .slice ea1 m.ents.length ec1, .int .i64 m.bi, .int .i64 m.bt, .slice va1 m.vot.length vc1, .string m.bd, .string m.dt] 27)
    refine ⟨HBx.out _ hb, hid ?_⟩
    exact (same_same m _ _ _ _ (ha.below ((Below.refl _ _).alloc (Nat.le_refl _) _)) (hat.below hb) hi.el hi.vl).mono fun e w' ⟨he, hb2⟩ => ⟨he, hb.trans (hb2.mono hb.size)⟩)
  have HPy : Hid (∀ (y : Ms), rightM y = true → ∀ w9 ea2 ec2 va2 vc2, Below wB.heap.size wB w9 → MsAt w9 y (.slice ea2 y.ents.length ec2) (.slice va2 y.vot.length vc2) → Calls Try.prog 11 #[.agg #[.int .i64 y.kind, .int .i64 y.fr, .int .i64 y.to_, .int .i64 y.term, .int .i64 y.index, .int .i64 y.logTerm, .int .i64 y.commit, .bool y.ok, .slice ea2 y.ents.length ec2, .int .i64 y.bi, .int .i64 y.bt, .slice va2 y.vot.length vc2, .string y.bd, .string y.dt]] (w9.alloc (.cells #[.int .i64 y.kind, .int .i64 y.fr, .int .i64 y.to_, .int .i64 y.term, .int .i64 y.index, .int .i64 y.logTerm, .int .i64 y.commit, .bool y.ok, .slice ea2 y.ents.length ec2, .int .i64 y.bi, .int .i64 y.bt, .slice va2 y.vot.length vc2, .string y.bd, .string y.dt] 27)) fun e w' => e = .returned (.tuple #[.string (mk (eM y)), .int .i64 0]) ∧ Below wB.heap.size wB w') := hid (fun y hy w9 ea2 ec2 va2 vc2 h ha => by
    have hb := h.alloc h.size (.cells #[.int .i64 y.kind, .int .i64 y.fr, .int .i64 y.to_, .int .i64 y.term, .int .i64 y.index, .int .i64 y.logTerm, .int .i64 y.commit, .bool y.ok, .slice ea2 y.ents.length ec2, .int .i64 y.bi, .int .i64 y.bt, .slice va2 y.vot.length vc2, .string y.bd, .string y.dt] 27)
    refine (HP.pack y _ _ (ha.below ((Below.refl _ _).alloc (Nat.le_refl _) _)) (msIn_right hy) (by have := (rightM_b hy).vl; omega)).mono fun e w' ⟨he, hb2⟩ => ⟨?_, hb.trans (hb2.mono hb.size)⟩
    rw [he]
    unfold packN
    rw [if_pos hy])
  have HSC := hid hSc
  have HXI := hid hxi
  clear hm hi hat hSc hx hxB hxi
  obtain ⟨k0, k1, k2, k3, k4, k5, k6, k7, k8, k9, k10, k11, k12, k13⟩ := HBx.out _ (Below.refl _ wB)
  have HW := hid hwB
  have hbs : smallM m = true := hsm
  rw [hbs] at HSm
  have HBS := hid hbs
  unfold maxLen at hsz hxl
  clear hbs obx hzB hbB
  unfold msV
  unfold msCells at *
  have hlI : (s.size : Int) ≤ 3000 := by omega
  have hlI2 : (xs.length : Int) ≤ 9 := by omega
  clear hsm
  have hs := HBS.out
  have hvl : m.vot.length ≤ 1000000 := by
    unfold smallM at hs
    simp only [Bool.and_eq_true, decide_eq_true_eq] at hs
    omega
  have K1 := hid (HP1.out hvl)
  have K3 := hid (HV1.out (by omega))
  have hev : (mk (eV xs)).size ≤ 100 + 10 := by
    have h1 := encs_length xs (fun x hx => HXI.out x hx)
    have h2 := eI_short (n := (xs.length : Int)) ⟨by omega, by omega⟩
    show (eV xs).length ≤ _
    unfold eV
    rw [List.length_append]
    omega
  have K4 : Hid (∀ wx, Below wB.heap.size wB wx → Calls Try.prog 21 #[.string (mk (eV xs) ++ s)] wx fun e w' => ∃ a cap, e = .returned (.tuple #[.slice a xs.length cap, .string s, .bool true]) ∧ Below wB.heap.size wB w' ∧ RAt numTy w' (.slice a xs.length cap) xs) := hid (fun wx h => by
    have h1 := HP.toVoters (mk (eV xs) ++ s).data.toList wx (by rw [str_len, ByteArray.size_append]; unfold maxLen; omega)
    rw [mk_of, append_data, mk_data, dV_eV (fun x hx => HXI.out x hx) hl2] at h1
    refine h1.mono fun e w' ht => ?_
    obtain ⟨a, cap, he, hb, hr⟩ := tvP_of ht
    exact ⟨a, cap, by rw [he]; rfl, h.trans (hb.mono h.size), hr⟩)
  have qcat : ¬ 9223372036854775807 < (mk (eV xs)).size + s.size := by omega
  have qs : (!s.toList == s.toList) = false := by simp
  have qs2 : (s.toList == s.toList) = true := beq_self_eq_true _
  obtain ⟨V, hV⟩ : ∃ V, mk (eV xs) = V := ⟨_, rfl⟩
  rw [hV] at K3 K4 qcat
  have hUn : Hid (∀ wx, Below wB.heap.size wB wx → Calls Try.prog 19 #[.string s] wx fun e w' => UnPost wx (unpackN s.data.toList) e w') := hid (fun wx h => HP.unpack s.data.toList wx (by rw [str_len]; omega))
  have hsc := HSC.out
  unfold packN at hsc
  have HBK : Hid (rightM m = true → ∀ wx, Below wB.heap.size wB wx → Calls Try.prog 19 #[.string (mk (eM m))] wx fun e w' => ∃ ea1 ec1 va1 vc1, e = .returned (.tuple #[.agg #[.int .i64 m.kind, .int .i64 m.fr, .int .i64 m.to_, .int .i64 m.term, .int .i64 m.index, .int .i64 m.logTerm, .int .i64 m.commit, .bool m.ok, .slice ea1 m.ents.length ec1, .int .i64 m.bi, .int .i64 m.bt, .slice va1 m.vot.length vc1, .string m.bd, .string m.dt], .int .i64 0]) ∧ Below wB.heap.size wB w' ∧ MsAt w' m (.slice ea1 m.ents.length ec1) (.slice va1 m.vot.length vc1)) := hid (fun hr wx h => by
    have h1 := HP.unpack (eM m) wx (by have := eM_short hr hs; omega)
    rw [(unpackN_iff _ _).2 ⟨hr, rfl⟩] at h1
    refine h1.mono fun e w' ht => ?_
    obtain ⟨ea1, ec1, va1, vc1, he, hb, ha⟩ := unP_of ht
    exact ⟨ea1, ec1, va1, vc1, he, h.trans (hb.mono h.size), ha⟩)
  clear HP HP1 HV1 hev hV hl hl2 hvl hsz hxl hs
  rw [hu] at hUn
  have K6 : Hid (∀ wx, Below wB.heap.size wB wx → Calls Try.prog 19 #[.string s] wx fun e w' => e = .returned (.tuple #[.agg #[.int .i64 0, .int .i64 0, .int .i64 0, .int .i64 0, .int .i64 0, .int .i64 0, .int .i64 0, .bool false, .slice none 0 0, .int .i64 0, .int .i64 0, .slice none 0 0, .string ⟨#[]⟩, .string ⟨#[]⟩], .int .i64 8]) ∧ Below wB.heap.size wB w') := hid (fun wx h => (hUn.out wx h).mono fun e w' ⟨hb, he⟩ => ⟨he, h.trans (hb.mono h.size)⟩)
  clear hu hUn
  rw [if_pos hr] at hsc
  cases hsc
  have K2 := hid (HBK.out hr)
  clear HBK hr
  go_enter Try.func5, Try.ntmps5
  go_wp2_with (first
      | (go_at_call 9; (with_reducible refine HS.out.mono ?_); rintro e w1 ⟨rfl, hb1⟩; obtain ⟨k0, k1, k2, k3, k4, k5, k6, k7, k8, k9, k10, k11, k12, k13⟩ := HBx.out _ hb1)
      | (go_at_call 10; (with_reducible refine (HSm.out _ hb1).mono ?_); rintro e w2 ⟨rfl, hb2⟩; obtain ⟨k0, k1, k2, k3, k4, k5, k6, k7, k8, k9, k10, k11, k12, k13⟩ := HBx.out _ hb2)
      | (go_at_call 11; (with_reducible refine (K1.out _ hb2).mono ?_); rintro e w3 ⟨rfl, hb3⟩)
      | (go_at_call 19; (with_reducible refine (K2.out _ hb3).mono ?_); rintro e w4 ⟨ea1, ec1, va1, vc1, rfl, hb4, ha4⟩; obtain ⟨⟨k0, k1, k2, k3, k4, k5, k6, k7, k8, k9, k10, k11, k12, k13⟩, HSq⟩ := HX.out _ _ _ _ _ hb4 ha4; clear ha4)
      | (go_at_call 20; (with_reducible refine HSq.out.mono ?_); rintro e w5 ⟨rfl, hbv⟩)
      | (go_at_call 15; (with_reducible refine (K3.out _ hbv).mono ?_); rintro e w6 ⟨rfl, hb6⟩)
      | (go_at_call 21; (with_reducible refine (K4.out _ hb6).mono ?_); rintro e w7 ⟨ya, yc, rfl, hb7, hr7⟩; have K5 := hid (HSi.out _ _ hb7 hr7))
      | (go_at_call 22; (with_reducible refine K5.out.mono ?_); rintro e w8 ⟨rfl, hb8⟩)
      | (go_at_call 19; (with_reducible refine (K6.out _ hb8).mono ?_); rintro e w9 ⟨rfl, hb9⟩))
  go_ret
  exact HPoss.out _ (hb9.alloc hb9.size _)
set_option maxHeartbeats 8000000 in
theorem msgBack_NW (HP : MsProg) (m : Ms) (ev vv v2 : Value) (s : ByteArray) (xs : List Int) (w : World) (hm : MsAt w m ev vv) (hi : MsIn m) (hsz : s.size ≤ maxLen) (hx : RAt numTy w v2 xs) (hxi : ∀ x ∈ xs, I64' x) (hxl : xs.length ≤ maxLen) (hsm : smallM m = true) (hl : s.size ≤ 3000) (hl2 : xs.length ≤ 9) (hr : ¬ rightM m = true) (hu : unpackN s.data.toList = none) :
    Calls Try.prog 5 #[msV m ev vv, .string s, v2] w (ShownPost w) := by
  obtain ⟨wB, hwB⟩ : ∃ wB, w.alloc (.cells (msCells m ev vv) 27) = wB := ⟨_, rfl⟩
  have hbB : Below w.heap.size w wB := by rw [← hwB]; exact (Below.refl _ _).alloc (Nat.le_refl _) _
  have obx : own wB w.heap.size (msCells m ev vv) 27 := by rw [← hwB]; exact own.new w _ _
  have hat := hm.below hbB
  have hxB := hx.below hbB
  have hzB : w.heap.size < wB.heap.size := by rw [← hwB]; simp
  have HPoss : Hid (∀ wx, Below wB.heap.size wB wx → ShownPost w (.returned (.bool true)) wx) := hid (fun wx h => ⟨rfl, hbB.trans (h.mono (by omega))⟩)
  have HBx := hid (fun wx (h : Below wB.heap.size wB wx) => msBox_of (obx.same (h.block _ obx.lt)))
  have HS := hid (shown_any HP wB)
  have HSm : Hid (∀ wx, Below wB.heap.size wB wx → Calls Try.prog 10 #[.agg #[.int .i64 m.kind, .int .i64 m.fr, .int .i64 m.to_, .int .i64 m.term, .int .i64 m.index, .int .i64 m.logTerm, .int .i64 m.commit, .bool m.ok, ev, .int .i64 m.bi, .int .i64 m.bt, vv, .string m.bd, .string m.dt]] wx fun e w' => e = .returned (.bool (smallM m)) ∧ Below wB.heap.size wB w') := hid (fun wx h => (small_any m ev vv (hat.below h) hi).mono fun e w' ⟨he, hb⟩ => ⟨he, h.trans (hb.mono h.size)⟩)
  obtain ⟨S, c, hSc⟩ : ∃ S c, packN m = (S, c) := ⟨_, _, rfl⟩
  have HP1 : Hid (m.vot.length ≤ 1000000 → ∀ wx, Below wB.heap.size wB wx → Calls Try.prog 11 #[.agg #[.int .i64 m.kind, .int .i64 m.fr, .int .i64 m.to_, .int .i64 m.term, .int .i64 m.index, .int .i64 m.logTerm, .int .i64 m.commit, .bool m.ok, ev, .int .i64 m.bi, .int .i64 m.bt, vv, .string m.bd, .string m.dt]] wx fun e w' => e = .returned (.tuple #[.string (mk S), .int .i64 c]) ∧ Below wB.heap.size wB w') := hid (fun hvl wx h => (HP.pack m ev vv (hat.below h) hi hvl).mono fun e w' ⟨he, hb⟩ => ⟨by rw [he, hSc], h.trans (hb.mono h.size)⟩)
  have HV1 : Hid (xs.length ≤ 1000000 → ∀ wx, Below wB.heap.size wB wx → Calls Try.prog 15 #[v2] wx fun e w' => e = .returned (.string (mk (eV xs))) ∧ Below wB.heap.size wB w') := hid (fun hl wx h => (HP.voters (hxB.below h) hxi hl).mono fun e w' ⟨he, hb⟩ => ⟨he, h.trans (hb.mono h.size)⟩)
  obtain ⟨ea, ec, rfl, _⟩ := ents_at hat.ents
  obtain ⟨va, vc, rfl, _⟩ := nums_at hat.vot
  obtain ⟨xa, xc, rfl, _⟩ := nums_at hxB
  have HSi : Hid (∀ ya wx, Below wB.heap.size wB wx → RAt numTy wx ya xs → Calls Try.prog 22 #[ya, .slice xa xs.length xc] wx fun e w' => e = .returned (.bool true) ∧ Below wB.heap.size wB w') := hid (fun ya wx h hr => (sameInts_same hr (hxB.below h) hxl).mono fun e w' ⟨he, hb⟩ => ⟨he, h.trans (hb.mono h.size)⟩)
  have HX : Hid (∀ w4 ea1 ec1 va1 vc1, Below wB.heap.size wB w4 → MsAt w4 m (.slice ea1 m.ents.length ec1) (.slice va1 m.vot.length vc1) → MsBox (w4.alloc (.cells #[.int .i64 m.kind, .int .i64 m.fr, .int .i64 m.to_, .int .i64 m.term, .int .i64 m.index, .int .i64 m.logTerm, .int .i64 m.commit, .bool m.ok, .slice ea1 m.ents.length ec1, .int .i64 m.bi, .int .i64 m.bt, .slice va1 m.vot.length vc1, .string m.bd, .string m.dt] 27)) w.heap.size m (.slice ea m.ents.length ec) (.slice va m.vot.length vc) ∧
      Hid (Calls Try.prog 20 #[.agg #[.int .i64 m.kind, .int .i64 m.fr, .int .i64 m.to_, .int .i64 m.term, .int .i64 m.index, .int .i64 m.logTerm, .int .i64 m.commit, .bool m.ok, .slice ea1 m.ents.length ec1, .int .i64 m.bi, .int .i64 m.bt, .slice va1 m.vot.length vc1, .string m.bd, .string m.dt], .agg #[.int .i64 m.kind, .int .i64 m.fr, .int .i64 m.to_, .int .i64 m.term, .int .i64 m.index, .int .i64 m.logTerm, .int .i64 m.commit, .bool m.ok, .slice ea m.ents.length ec, .int .i64 m.bi, .int .i64 m.bt, .slice va m.vot.length vc, .string m.bd, .string m.dt]] (w4.alloc (.cells #[.int .i64 m.kind, .int .i64 m.fr, .int .i64 m.to_, .int .i64 m.term, .int .i64 m.index, .int .i64 m.logTerm, .int .i64 m.commit, .bool m.ok, .slice ea1 m.ents.length ec1, .int .i64 m.bi, .int .i64 m.bt, .slice va1 m.vot.length vc1, .string m.bd, .string m.dt] 27)) fun e w' => e = .returned (.bool true) ∧ Below wB.heap.size wB w')) := hid (fun w4 ea1 ec1 va1 vc1 h ha => by
    have hb := h.alloc h.size (.cells #[.int .i64 m.kind, .int .i64 m.fr, .int .i64 m.to_, .int .i64 m.term, .int .i64 m.index, .int .i64 m.logTerm, .int .i64 m.commit, .bool m.ok, .slice ea1 m.ents.length ec1, .int .i64 m.bi, .int .i64 m.bt, .slice va1 m.vot.length vc1, .string m.bd, .string m.dt] 27)
    refine ⟨HBx.out _ hb, hid ?_⟩
    exact (same_same m _ _ _ _ (ha.below ((Below.refl _ _).alloc (Nat.le_refl _) _)) (hat.below hb) hi.el hi.vl).mono fun e w' ⟨he, hb2⟩ => ⟨he, hb.trans (hb2.mono hb.size)⟩)
  have HPy : Hid (∀ (y : Ms), rightM y = true → ∀ w9 ea2 ec2 va2 vc2, Below wB.heap.size wB w9 → MsAt w9 y (.slice ea2 y.ents.length ec2) (.slice va2 y.vot.length vc2) → Calls Try.prog 11 #[.agg #[.int .i64 y.kind, .int .i64 y.fr, .int .i64 y.to_, .int .i64 y.term, .int .i64 y.index, .int .i64 y.logTerm, .int .i64 y.commit, .bool y.ok, .slice ea2 y.ents.length ec2, .int .i64 y.bi, .int .i64 y.bt, .slice va2 y.vot.length vc2, .string y.bd, .string y.dt]] (w9.alloc (.cells #[.int .i64 y.kind, .int .i64 y.fr, .int .i64 y.to_, .int .i64 y.term, .int .i64 y.index, .int .i64 y.logTerm, .int .i64 y.commit, .bool y.ok, .slice ea2 y.ents.length ec2, .int .i64 y.bi, .int .i64 y.bt, .slice va2 y.vot.length vc2, .string y.bd, .string y.dt] 27)) fun e w' => e = .returned (.tuple #[.string (mk (eM y)), .int .i64 0]) ∧ Below wB.heap.size wB w') := hid (fun y hy w9 ea2 ec2 va2 vc2 h ha => by
    have hb := h.alloc h.size (.cells #[.int .i64 y.kind, .int .i64 y.fr, .int .i64 y.to_, .int .i64 y.term, .int .i64 y.index, .int .i64 y.logTerm, .int .i64 y.commit, .bool y.ok, .slice ea2 y.ents.length ec2, .int .i64 y.bi, .int .i64 y.bt, .slice va2 y.vot.length vc2, .string y.bd, .string y.dt] 27)
    refine (HP.pack y _ _ (ha.below ((Below.refl _ _).alloc (Nat.le_refl _) _)) (msIn_right hy) (by have := (rightM_b hy).vl; omega)).mono fun e w' ⟨he, hb2⟩ => ⟨?_, hb.trans (hb2.mono hb.size)⟩
    rw [he]
    unfold packN
    rw [if_pos hy])
  have HSC := hid hSc
  have HXI := hid hxi
  clear hm hi hat hSc hx hxB hxi
  obtain ⟨k0, k1, k2, k3, k4, k5, k6, k7, k8, k9, k10, k11, k12, k13⟩ := HBx.out _ (Below.refl _ wB)
  have HW := hid hwB
  have hbs : smallM m = true := hsm
  rw [hbs] at HSm
  have HBS := hid hbs
  unfold maxLen at hsz hxl
  clear hbs obx hzB hbB
  unfold msV
  unfold msCells at *
  have hlI : (s.size : Int) ≤ 3000 := by omega
  have hlI2 : (xs.length : Int) ≤ 9 := by omega
  clear hsm
  have hs := HBS.out
  have hvl : m.vot.length ≤ 1000000 := by
    unfold smallM at hs
    simp only [Bool.and_eq_true, decide_eq_true_eq] at hs
    omega
  have K1 := hid (HP1.out hvl)
  have K3 := hid (HV1.out (by omega))
  have hev : (mk (eV xs)).size ≤ 100 + 10 := by
    have h1 := encs_length xs (fun x hx => HXI.out x hx)
    have h2 := eI_short (n := (xs.length : Int)) ⟨by omega, by omega⟩
    show (eV xs).length ≤ _
    unfold eV
    rw [List.length_append]
    omega
  have K4 : Hid (∀ wx, Below wB.heap.size wB wx → Calls Try.prog 21 #[.string (mk (eV xs) ++ s)] wx fun e w' => ∃ a cap, e = .returned (.tuple #[.slice a xs.length cap, .string s, .bool true]) ∧ Below wB.heap.size wB w' ∧ RAt numTy w' (.slice a xs.length cap) xs) := hid (fun wx h => by
    have h1 := HP.toVoters (mk (eV xs) ++ s).data.toList wx (by rw [str_len, ByteArray.size_append]; unfold maxLen; omega)
    rw [mk_of, append_data, mk_data, dV_eV (fun x hx => HXI.out x hx) hl2] at h1
    refine h1.mono fun e w' ht => ?_
    obtain ⟨a, cap, he, hb, hr⟩ := tvP_of ht
    exact ⟨a, cap, by rw [he]; rfl, h.trans (hb.mono h.size), hr⟩)
  have qcat : ¬ 9223372036854775807 < (mk (eV xs)).size + s.size := by omega
  have qs : (!s.toList == s.toList) = false := by simp
  have qs2 : (s.toList == s.toList) = true := beq_self_eq_true _
  obtain ⟨V, hV⟩ : ∃ V, mk (eV xs) = V := ⟨_, rfl⟩
  rw [hV] at K3 K4 qcat
  have hUn : Hid (∀ wx, Below wB.heap.size wB wx → Calls Try.prog 19 #[.string s] wx fun e w' => UnPost wx (unpackN s.data.toList) e w') := hid (fun wx h => HP.unpack s.data.toList wx (by rw [str_len]; omega))
  have hsc := HSC.out
  unfold packN at hsc
  have HBK : Hid (rightM m = true → ∀ wx, Below wB.heap.size wB wx → Calls Try.prog 19 #[.string (mk (eM m))] wx fun e w' => ∃ ea1 ec1 va1 vc1, e = .returned (.tuple #[.agg #[.int .i64 m.kind, .int .i64 m.fr, .int .i64 m.to_, .int .i64 m.term, .int .i64 m.index, .int .i64 m.logTerm, .int .i64 m.commit, .bool m.ok, .slice ea1 m.ents.length ec1, .int .i64 m.bi, .int .i64 m.bt, .slice va1 m.vot.length vc1, .string m.bd, .string m.dt], .int .i64 0]) ∧ Below wB.heap.size wB w' ∧ MsAt w' m (.slice ea1 m.ents.length ec1) (.slice va1 m.vot.length vc1)) := hid (fun hr wx h => by
    have h1 := HP.unpack (eM m) wx (by have := eM_short hr hs; omega)
    rw [(unpackN_iff _ _).2 ⟨hr, rfl⟩] at h1
    refine h1.mono fun e w' ht => ?_
    obtain ⟨ea1, ec1, va1, vc1, he, hb, ha⟩ := unP_of ht
    exact ⟨ea1, ec1, va1, vc1, he, h.trans (hb.mono h.size), ha⟩)
  clear HP HP1 HV1 hev hV hl hl2 hvl hsz hxl hs
  rw [hu] at hUn
  have K6 : Hid (∀ wx, Below wB.heap.size wB wx → Calls Try.prog 19 #[.string s] wx fun e w' => e = .returned (.tuple #[.agg #[.int .i64 0, .int .i64 0, .int .i64 0, .int .i64 0, .int .i64 0, .int .i64 0, .int .i64 0, .bool false, .slice none 0 0, .int .i64 0, .int .i64 0, .slice none 0 0, .string ⟨#[]⟩, .string ⟨#[]⟩], .int .i64 8]) ∧ Below wB.heap.size wB w') := hid (fun wx h => (hUn.out wx h).mono fun e w' ⟨hb, he⟩ => ⟨he, h.trans (hb.mono h.size)⟩)
  clear hu hUn
  rw [if_neg hr] at hsc
  cases hsc
  clear HBK hr
  go_enter Try.func5, Try.ntmps5
  go_wp2_with (first
      | (go_at_call 9; (with_reducible refine HS.out.mono ?_); rintro e w1 ⟨rfl, hb1⟩; obtain ⟨k0, k1, k2, k3, k4, k5, k6, k7, k8, k9, k10, k11, k12, k13⟩ := HBx.out _ hb1)
      | (go_at_call 10; (with_reducible refine (HSm.out _ hb1).mono ?_); rintro e w2 ⟨rfl, hb2⟩; obtain ⟨k0, k1, k2, k3, k4, k5, k6, k7, k8, k9, k10, k11, k12, k13⟩ := HBx.out _ hb2)
      | (go_at_call 11; (with_reducible refine (K1.out _ hb2).mono ?_); rintro e w3 ⟨rfl, hbv⟩)
      | (go_at_call 15; (with_reducible refine (K3.out _ hbv).mono ?_); rintro e w6 ⟨rfl, hb6⟩)
      | (go_at_call 21; (with_reducible refine (K4.out _ hb6).mono ?_); rintro e w7 ⟨ya, yc, rfl, hb7, hr7⟩; have K5 := hid (HSi.out _ _ hb7 hr7))
      | (go_at_call 22; (with_reducible refine K5.out.mono ?_); rintro e w8 ⟨rfl, hb8⟩)
      | (go_at_call 19; (with_reducible refine (K6.out _ hb8).mono ?_); rintro e w9 ⟨rfl, hb9⟩))
  go_ret
  exact HPoss.out _ (hb9.alloc hb9.size _)
set_option maxHeartbeats 8000000 in
theorem msgBack_SR (HP : MsProg) (m : Ms) (ev vv v2 : Value) (s : ByteArray) (xs : List Int) (w : World) (hm : MsAt w m ev vv) (hi : MsIn m) (hsz : s.size ≤ maxLen) (hx : RAt numTy w v2 xs) (hxi : ∀ x ∈ xs, I64' x) (hxl : xs.length ≤ maxLen) (hsm : smallM m = true) (hl : s.size ≤ 3000) (hl2 : xs.length ≤ 9) (hr : rightM m = true) (y : Ms) (hu : unpackN s.data.toList = some y) :
    Calls Try.prog 5 #[msV m ev vv, .string s, v2] w (ShownPost w) := by
  obtain ⟨wB, hwB⟩ : ∃ wB, w.alloc (.cells (msCells m ev vv) 27) = wB := ⟨_, rfl⟩
  have hbB : Below w.heap.size w wB := by rw [← hwB]; exact (Below.refl _ _).alloc (Nat.le_refl _) _
  have obx : own wB w.heap.size (msCells m ev vv) 27 := by rw [← hwB]; exact own.new w _ _
  have hat := hm.below hbB
  have hxB := hx.below hbB
  have hzB : w.heap.size < wB.heap.size := by rw [← hwB]; simp
  have HPoss : Hid (∀ wx, Below wB.heap.size wB wx → ShownPost w (.returned (.bool true)) wx) := hid (fun wx h => ⟨rfl, hbB.trans (h.mono (by omega))⟩)
  have HBx := hid (fun wx (h : Below wB.heap.size wB wx) => msBox_of (obx.same (h.block _ obx.lt)))
  have HS := hid (shown_any HP wB)
  have HSm : Hid (∀ wx, Below wB.heap.size wB wx → Calls Try.prog 10 #[.agg #[.int .i64 m.kind, .int .i64 m.fr, .int .i64 m.to_, .int .i64 m.term, .int .i64 m.index, .int .i64 m.logTerm, .int .i64 m.commit, .bool m.ok, ev, .int .i64 m.bi, .int .i64 m.bt, vv, .string m.bd, .string m.dt]] wx fun e w' => e = .returned (.bool (smallM m)) ∧ Below wB.heap.size wB w') := hid (fun wx h => (small_any m ev vv (hat.below h) hi).mono fun e w' ⟨he, hb⟩ => ⟨he, h.trans (hb.mono h.size)⟩)
  obtain ⟨S, c, hSc⟩ : ∃ S c, packN m = (S, c) := ⟨_, _, rfl⟩
  have HP1 : Hid (m.vot.length ≤ 1000000 → ∀ wx, Below wB.heap.size wB wx → Calls Try.prog 11 #[.agg #[.int .i64 m.kind, .int .i64 m.fr, .int .i64 m.to_, .int .i64 m.term, .int .i64 m.index, .int .i64 m.logTerm, .int .i64 m.commit, .bool m.ok, ev, .int .i64 m.bi, .int .i64 m.bt, vv, .string m.bd, .string m.dt]] wx fun e w' => e = .returned (.tuple #[.string (mk S), .int .i64 c]) ∧ Below wB.heap.size wB w') := hid (fun hvl wx h => (HP.pack m ev vv (hat.below h) hi hvl).mono fun e w' ⟨he, hb⟩ => ⟨by rw [he, hSc], h.trans (hb.mono h.size)⟩)
  have HV1 : Hid (xs.length ≤ 1000000 → ∀ wx, Below wB.heap.size wB wx → Calls Try.prog 15 #[v2] wx fun e w' => e = .returned (.string (mk (eV xs))) ∧ Below wB.heap.size wB w') := hid (fun hl wx h => (HP.voters (hxB.below h) hxi hl).mono fun e w' ⟨he, hb⟩ => ⟨he, h.trans (hb.mono h.size)⟩)
  obtain ⟨ea, ec, rfl, _⟩ := ents_at hat.ents
  obtain ⟨va, vc, rfl, _⟩ := nums_at hat.vot
  obtain ⟨xa, xc, rfl, _⟩ := nums_at hxB
  have HSi : Hid (∀ ya wx, Below wB.heap.size wB wx → RAt numTy wx ya xs → Calls Try.prog 22 #[ya, .slice xa xs.length xc] wx fun e w' => e = .returned (.bool true) ∧ Below wB.heap.size wB w') := hid (fun ya wx h hr => (sameInts_same hr (hxB.below h) hxl).mono fun e w' ⟨he, hb⟩ => ⟨he, h.trans (hb.mono h.size)⟩)
  have HX : Hid (∀ w4 ea1 ec1 va1 vc1, Below wB.heap.size wB w4 → MsAt w4 m (.slice ea1 m.ents.length ec1) (.slice va1 m.vot.length vc1) → MsBox (w4.alloc (.cells #[.int .i64 m.kind, .int .i64 m.fr, .int .i64 m.to_, .int .i64 m.term, .int .i64 m.index, .int .i64 m.logTerm, .int .i64 m.commit, .bool m.ok, .slice ea1 m.ents.length ec1, .int .i64 m.bi, .int .i64 m.bt, .slice va1 m.vot.length vc1, .string m.bd, .string m.dt] 27)) w.heap.size m (.slice ea m.ents.length ec) (.slice va m.vot.length vc) ∧
      Hid (Calls Try.prog 20 #[.agg #[.int .i64 m.kind, .int .i64 m.fr, .int .i64 m.to_, .int .i64 m.term, .int .i64 m.index, .int .i64 m.logTerm, .int .i64 m.commit, .bool m.ok, .slice ea1 m.ents.length ec1, .int .i64 m.bi, .int .i64 m.bt, .slice va1 m.vot.length vc1, .string m.bd, .string m.dt], .agg #[.int .i64 m.kind, .int .i64 m.fr, .int .i64 m.to_, .int .i64 m.term, .int .i64 m.index, .int .i64 m.logTerm, .int .i64 m.commit, .bool m.ok, .slice ea m.ents.length ec, .int .i64 m.bi, .int .i64 m.bt, .slice va m.vot.length vc, .string m.bd, .string m.dt]] (w4.alloc (.cells #[.int .i64 m.kind, .int .i64 m.fr, .int .i64 m.to_, .int .i64 m.term, .int .i64 m.index, .int .i64 m.logTerm, .int .i64 m.commit, .bool m.ok, .slice ea1 m.ents.length ec1, .int .i64 m.bi, .int .i64 m.bt, .slice va1 m.vot.length vc1, .string m.bd, .string m.dt] 27)) fun e w' => e = .returned (.bool true) ∧ Below wB.heap.size wB w')) := hid (fun w4 ea1 ec1 va1 vc1 h ha => by
    have hb := h.alloc h.size (.cells #[.int .i64 m.kind, .int .i64 m.fr, .int .i64 m.to_, .int .i64 m.term, .int .i64 m.index, .int .i64 m.logTerm, .int .i64 m.commit, .bool m.ok, .slice ea1 m.ents.length ec1, .int .i64 m.bi, .int .i64 m.bt, .slice va1 m.vot.length vc1, .string m.bd, .string m.dt] 27)
    refine ⟨HBx.out _ hb, hid ?_⟩
    exact (same_same m _ _ _ _ (ha.below ((Below.refl _ _).alloc (Nat.le_refl _) _)) (hat.below hb) hi.el hi.vl).mono fun e w' ⟨he, hb2⟩ => ⟨he, hb.trans (hb2.mono hb.size)⟩)
  have HPy : Hid (∀ (y : Ms), rightM y = true → ∀ w9 ea2 ec2 va2 vc2, Below wB.heap.size wB w9 → MsAt w9 y (.slice ea2 y.ents.length ec2) (.slice va2 y.vot.length vc2) → Calls Try.prog 11 #[.agg #[.int .i64 y.kind, .int .i64 y.fr, .int .i64 y.to_, .int .i64 y.term, .int .i64 y.index, .int .i64 y.logTerm, .int .i64 y.commit, .bool y.ok, .slice ea2 y.ents.length ec2, .int .i64 y.bi, .int .i64 y.bt, .slice va2 y.vot.length vc2, .string y.bd, .string y.dt]] (w9.alloc (.cells #[.int .i64 y.kind, .int .i64 y.fr, .int .i64 y.to_, .int .i64 y.term, .int .i64 y.index, .int .i64 y.logTerm, .int .i64 y.commit, .bool y.ok, .slice ea2 y.ents.length ec2, .int .i64 y.bi, .int .i64 y.bt, .slice va2 y.vot.length vc2, .string y.bd, .string y.dt] 27)) fun e w' => e = .returned (.tuple #[.string (mk (eM y)), .int .i64 0]) ∧ Below wB.heap.size wB w') := hid (fun y hy w9 ea2 ec2 va2 vc2 h ha => by
    have hb := h.alloc h.size (.cells #[.int .i64 y.kind, .int .i64 y.fr, .int .i64 y.to_, .int .i64 y.term, .int .i64 y.index, .int .i64 y.logTerm, .int .i64 y.commit, .bool y.ok, .slice ea2 y.ents.length ec2, .int .i64 y.bi, .int .i64 y.bt, .slice va2 y.vot.length vc2, .string y.bd, .string y.dt] 27)
    refine (HP.pack y _ _ (ha.below ((Below.refl _ _).alloc (Nat.le_refl _) _)) (msIn_right hy) (by have := (rightM_b hy).vl; omega)).mono fun e w' ⟨he, hb2⟩ => ⟨?_, hb.trans (hb2.mono hb.size)⟩
    rw [he]
    unfold packN
    rw [if_pos hy])
  have HSC := hid hSc
  have HXI := hid hxi
  clear hm hi hat hSc hx hxB hxi
  obtain ⟨k0, k1, k2, k3, k4, k5, k6, k7, k8, k9, k10, k11, k12, k13⟩ := HBx.out _ (Below.refl _ wB)
  have HW := hid hwB
  have hbs : smallM m = true := hsm
  rw [hbs] at HSm
  have HBS := hid hbs
  unfold maxLen at hsz hxl
  clear hbs obx hzB hbB
  unfold msV
  unfold msCells at *
  have hlI : (s.size : Int) ≤ 3000 := by omega
  have hlI2 : (xs.length : Int) ≤ 9 := by omega
  clear hsm
  have hs := HBS.out
  have hvl : m.vot.length ≤ 1000000 := by
    unfold smallM at hs
    simp only [Bool.and_eq_true, decide_eq_true_eq] at hs
    omega
  have K1 := hid (HP1.out hvl)
  have K3 := hid (HV1.out (by omega))
  have hev : (mk (eV xs)).size ≤ 100 + 10 := by
    have h1 := encs_length xs (fun x hx => HXI.out x hx)
    have h2 := eI_short (n := (xs.length : Int)) ⟨by omega, by omega⟩
    show (eV xs).length ≤ _
    unfold eV
    rw [List.length_append]
    omega
  have K4 : Hid (∀ wx, Below wB.heap.size wB wx → Calls Try.prog 21 #[.string (mk (eV xs) ++ s)] wx fun e w' => ∃ a cap, e = .returned (.tuple #[.slice a xs.length cap, .string s, .bool true]) ∧ Below wB.heap.size wB w' ∧ RAt numTy w' (.slice a xs.length cap) xs) := hid (fun wx h => by
    have h1 := HP.toVoters (mk (eV xs) ++ s).data.toList wx (by rw [str_len, ByteArray.size_append]; unfold maxLen; omega)
    rw [mk_of, append_data, mk_data, dV_eV (fun x hx => HXI.out x hx) hl2] at h1
    refine h1.mono fun e w' ht => ?_
    obtain ⟨a, cap, he, hb, hr⟩ := tvP_of ht
    exact ⟨a, cap, by rw [he]; rfl, h.trans (hb.mono h.size), hr⟩)
  have qcat : ¬ 9223372036854775807 < (mk (eV xs)).size + s.size := by omega
  have qs : (!s.toList == s.toList) = false := by simp
  have qs2 : (s.toList == s.toList) = true := beq_self_eq_true _
  obtain ⟨V, hV⟩ : ∃ V, mk (eV xs) = V := ⟨_, rfl⟩
  rw [hV] at K3 K4 qcat
  have hUn : Hid (∀ wx, Below wB.heap.size wB wx → Calls Try.prog 19 #[.string s] wx fun e w' => UnPost wx (unpackN s.data.toList) e w') := hid (fun wx h => HP.unpack s.data.toList wx (by rw [str_len]; omega))
  have hsc := HSC.out
  unfold packN at hsc
  have HBK : Hid (rightM m = true → ∀ wx, Below wB.heap.size wB wx → Calls Try.prog 19 #[.string (mk (eM m))] wx fun e w' => ∃ ea1 ec1 va1 vc1, e = .returned (.tuple #[.agg #[.int .i64 m.kind, .int .i64 m.fr, .int .i64 m.to_, .int .i64 m.term, .int .i64 m.index, .int .i64 m.logTerm, .int .i64 m.commit, .bool m.ok, .slice ea1 m.ents.length ec1, .int .i64 m.bi, .int .i64 m.bt, .slice va1 m.vot.length vc1, .string m.bd, .string m.dt], .int .i64 0]) ∧ Below wB.heap.size wB w' ∧ MsAt w' m (.slice ea1 m.ents.length ec1) (.slice va1 m.vot.length vc1)) := hid (fun hr wx h => by
    have h1 := HP.unpack (eM m) wx (by have := eM_short hr hs; omega)
    rw [(unpackN_iff _ _).2 ⟨hr, rfl⟩] at h1
    refine h1.mono fun e w' ht => ?_
    obtain ⟨ea1, ec1, va1, vc1, he, hb, ha⟩ := unP_of ht
    exact ⟨ea1, ec1, va1, vc1, he, h.trans (hb.mono h.size), ha⟩)
  clear HP HP1 HV1 hev hV hl hl2 hvl hsz hxl hs
  obtain ⟨hyr, hys⟩ := (unpackN_iff _ _).1 hu
  rw [hu] at hUn
  have K6 : Hid (∀ wx, Below wB.heap.size wB wx → Calls Try.prog 19 #[.string s] wx fun e w' => ∃ ea2 ec2 va2 vc2, e = .returned (.tuple #[.agg #[.int .i64 y.kind, .int .i64 y.fr, .int .i64 y.to_, .int .i64 y.term, .int .i64 y.index, .int .i64 y.logTerm, .int .i64 y.commit, .bool y.ok, .slice ea2 y.ents.length ec2, .int .i64 y.bi, .int .i64 y.bt, .slice va2 y.vot.length vc2, .string y.bd, .string y.dt], .int .i64 0]) ∧ Below wB.heap.size wB w' ∧ MsAt w' y (.slice ea2 y.ents.length ec2) (.slice va2 y.vot.length vc2)) := hid (fun wx h => (hUn.out wx h).mono fun e w' ht => by
    obtain ⟨ea2, ec2, va2, vc2, he, hb, ha⟩ := unP_of ht
    exact ⟨ea2, ec2, va2, vc2, he, h.trans (hb.mono h.size), ha⟩)
  have hPy := HPy.out y hyr
  rw [← hys, mk_of] at hPy
  clear HPy
  have HPy := hid hPy
  clear hPy hu hUn hys hyr
  rw [if_pos hr] at hsc
  cases hsc
  have K2 := hid (HBK.out hr)
  clear HBK hr
  go_enter Try.func5, Try.ntmps5
  go_wp2_with (first
      | (go_at_call 9; (with_reducible refine HS.out.mono ?_); rintro e w1 ⟨rfl, hb1⟩; obtain ⟨k0, k1, k2, k3, k4, k5, k6, k7, k8, k9, k10, k11, k12, k13⟩ := HBx.out _ hb1)
      | (go_at_call 10; (with_reducible refine (HSm.out _ hb1).mono ?_); rintro e w2 ⟨rfl, hb2⟩; obtain ⟨k0, k1, k2, k3, k4, k5, k6, k7, k8, k9, k10, k11, k12, k13⟩ := HBx.out _ hb2)
      | (go_at_call 11; (with_reducible refine (K1.out _ hb2).mono ?_); rintro e w3 ⟨rfl, hb3⟩)
      | (go_at_call 19; (with_reducible refine (K2.out _ hb3).mono ?_); rintro e w4 ⟨ea1, ec1, va1, vc1, rfl, hb4, ha4⟩; obtain ⟨⟨k0, k1, k2, k3, k4, k5, k6, k7, k8, k9, k10, k11, k12, k13⟩, HSq⟩ := HX.out _ _ _ _ _ hb4 ha4; clear ha4)
      | (go_at_call 20; (with_reducible refine HSq.out.mono ?_); rintro e w5 ⟨rfl, hbv⟩)
      | (go_at_call 15; (with_reducible refine (K3.out _ hbv).mono ?_); rintro e w6 ⟨rfl, hb6⟩)
      | (go_at_call 21; (with_reducible refine (K4.out _ hb6).mono ?_); rintro e w7 ⟨ya, yc, rfl, hb7, hr7⟩; have K5 := hid (HSi.out _ _ hb7 hr7))
      | (go_at_call 22; (with_reducible refine K5.out.mono ?_); rintro e w8 ⟨rfl, hb8⟩)
      | (go_at_call 19; (with_reducible refine (K6.out _ hb8).mono ?_); rintro e w9 ⟨ea2, ec2, va2, vc2, rfl, hb9, ha9⟩; have K7 := hid (HPy.out _ _ _ _ _ hb9 ha9); clear ha9)
      | (go_at_call 11; (with_reducible refine K7.out.mono ?_); rintro e w10 ⟨rfl, hb10⟩))
  go_ret
  exact HPoss.out _ hb10
set_option maxHeartbeats 8000000 in
theorem msgBack_SW (HP : MsProg) (m : Ms) (ev vv v2 : Value) (s : ByteArray) (xs : List Int) (w : World) (hm : MsAt w m ev vv) (hi : MsIn m) (hsz : s.size ≤ maxLen) (hx : RAt numTy w v2 xs) (hxi : ∀ x ∈ xs, I64' x) (hxl : xs.length ≤ maxLen) (hsm : smallM m = true) (hl : s.size ≤ 3000) (hl2 : xs.length ≤ 9) (hr : ¬ rightM m = true) (y : Ms) (hu : unpackN s.data.toList = some y) :
    Calls Try.prog 5 #[msV m ev vv, .string s, v2] w (ShownPost w) := by
  obtain ⟨wB, hwB⟩ : ∃ wB, w.alloc (.cells (msCells m ev vv) 27) = wB := ⟨_, rfl⟩
  have hbB : Below w.heap.size w wB := by rw [← hwB]; exact (Below.refl _ _).alloc (Nat.le_refl _) _
  have obx : own wB w.heap.size (msCells m ev vv) 27 := by rw [← hwB]; exact own.new w _ _
  have hat := hm.below hbB
  have hxB := hx.below hbB
  have hzB : w.heap.size < wB.heap.size := by rw [← hwB]; simp
  have HPoss : Hid (∀ wx, Below wB.heap.size wB wx → ShownPost w (.returned (.bool true)) wx) := hid (fun wx h => ⟨rfl, hbB.trans (h.mono (by omega))⟩)
  have HBx := hid (fun wx (h : Below wB.heap.size wB wx) => msBox_of (obx.same (h.block _ obx.lt)))
  have HS := hid (shown_any HP wB)
  have HSm : Hid (∀ wx, Below wB.heap.size wB wx → Calls Try.prog 10 #[.agg #[.int .i64 m.kind, .int .i64 m.fr, .int .i64 m.to_, .int .i64 m.term, .int .i64 m.index, .int .i64 m.logTerm, .int .i64 m.commit, .bool m.ok, ev, .int .i64 m.bi, .int .i64 m.bt, vv, .string m.bd, .string m.dt]] wx fun e w' => e = .returned (.bool (smallM m)) ∧ Below wB.heap.size wB w') := hid (fun wx h => (small_any m ev vv (hat.below h) hi).mono fun e w' ⟨he, hb⟩ => ⟨he, h.trans (hb.mono h.size)⟩)
  obtain ⟨S, c, hSc⟩ : ∃ S c, packN m = (S, c) := ⟨_, _, rfl⟩
  have HP1 : Hid (m.vot.length ≤ 1000000 → ∀ wx, Below wB.heap.size wB wx → Calls Try.prog 11 #[.agg #[.int .i64 m.kind, .int .i64 m.fr, .int .i64 m.to_, .int .i64 m.term, .int .i64 m.index, .int .i64 m.logTerm, .int .i64 m.commit, .bool m.ok, ev, .int .i64 m.bi, .int .i64 m.bt, vv, .string m.bd, .string m.dt]] wx fun e w' => e = .returned (.tuple #[.string (mk S), .int .i64 c]) ∧ Below wB.heap.size wB w') := hid (fun hvl wx h => (HP.pack m ev vv (hat.below h) hi hvl).mono fun e w' ⟨he, hb⟩ => ⟨by rw [he, hSc], h.trans (hb.mono h.size)⟩)
  have HV1 : Hid (xs.length ≤ 1000000 → ∀ wx, Below wB.heap.size wB wx → Calls Try.prog 15 #[v2] wx fun e w' => e = .returned (.string (mk (eV xs))) ∧ Below wB.heap.size wB w') := hid (fun hl wx h => (HP.voters (hxB.below h) hxi hl).mono fun e w' ⟨he, hb⟩ => ⟨he, h.trans (hb.mono h.size)⟩)
  obtain ⟨ea, ec, rfl, _⟩ := ents_at hat.ents
  obtain ⟨va, vc, rfl, _⟩ := nums_at hat.vot
  obtain ⟨xa, xc, rfl, _⟩ := nums_at hxB
  have HSi : Hid (∀ ya wx, Below wB.heap.size wB wx → RAt numTy wx ya xs → Calls Try.prog 22 #[ya, .slice xa xs.length xc] wx fun e w' => e = .returned (.bool true) ∧ Below wB.heap.size wB w') := hid (fun ya wx h hr => (sameInts_same hr (hxB.below h) hxl).mono fun e w' ⟨he, hb⟩ => ⟨he, h.trans (hb.mono h.size)⟩)
  have HX : Hid (∀ w4 ea1 ec1 va1 vc1, Below wB.heap.size wB w4 → MsAt w4 m (.slice ea1 m.ents.length ec1) (.slice va1 m.vot.length vc1) → MsBox (w4.alloc (.cells #[.int .i64 m.kind, .int .i64 m.fr, .int .i64 m.to_, .int .i64 m.term, .int .i64 m.index, .int .i64 m.logTerm, .int .i64 m.commit, .bool m.ok, .slice ea1 m.ents.length ec1, .int .i64 m.bi, .int .i64 m.bt, .slice va1 m.vot.length vc1, .string m.bd, .string m.dt] 27)) w.heap.size m (.slice ea m.ents.length ec) (.slice va m.vot.length vc) ∧
      Hid (Calls Try.prog 20 #[.agg #[.int .i64 m.kind, .int .i64 m.fr, .int .i64 m.to_, .int .i64 m.term, .int .i64 m.index, .int .i64 m.logTerm, .int .i64 m.commit, .bool m.ok, .slice ea1 m.ents.length ec1, .int .i64 m.bi, .int .i64 m.bt, .slice va1 m.vot.length vc1, .string m.bd, .string m.dt], .agg #[.int .i64 m.kind, .int .i64 m.fr, .int .i64 m.to_, .int .i64 m.term, .int .i64 m.index, .int .i64 m.logTerm, .int .i64 m.commit, .bool m.ok, .slice ea m.ents.length ec, .int .i64 m.bi, .int .i64 m.bt, .slice va m.vot.length vc, .string m.bd, .string m.dt]] (w4.alloc (.cells #[.int .i64 m.kind, .int .i64 m.fr, .int .i64 m.to_, .int .i64 m.term, .int .i64 m.index, .int .i64 m.logTerm, .int .i64 m.commit, .bool m.ok, .slice ea1 m.ents.length ec1, .int .i64 m.bi, .int .i64 m.bt, .slice va1 m.vot.length vc1, .string m.bd, .string m.dt] 27)) fun e w' => e = .returned (.bool true) ∧ Below wB.heap.size wB w')) := hid (fun w4 ea1 ec1 va1 vc1 h ha => by
    have hb := h.alloc h.size (.cells #[.int .i64 m.kind, .int .i64 m.fr, .int .i64 m.to_, .int .i64 m.term, .int .i64 m.index, .int .i64 m.logTerm, .int .i64 m.commit, .bool m.ok, .slice ea1 m.ents.length ec1, .int .i64 m.bi, .int .i64 m.bt, .slice va1 m.vot.length vc1, .string m.bd, .string m.dt] 27)
    refine ⟨HBx.out _ hb, hid ?_⟩
    exact (same_same m _ _ _ _ (ha.below ((Below.refl _ _).alloc (Nat.le_refl _) _)) (hat.below hb) hi.el hi.vl).mono fun e w' ⟨he, hb2⟩ => ⟨he, hb.trans (hb2.mono hb.size)⟩)
  have HPy : Hid (∀ (y : Ms), rightM y = true → ∀ w9 ea2 ec2 va2 vc2, Below wB.heap.size wB w9 → MsAt w9 y (.slice ea2 y.ents.length ec2) (.slice va2 y.vot.length vc2) → Calls Try.prog 11 #[.agg #[.int .i64 y.kind, .int .i64 y.fr, .int .i64 y.to_, .int .i64 y.term, .int .i64 y.index, .int .i64 y.logTerm, .int .i64 y.commit, .bool y.ok, .slice ea2 y.ents.length ec2, .int .i64 y.bi, .int .i64 y.bt, .slice va2 y.vot.length vc2, .string y.bd, .string y.dt]] (w9.alloc (.cells #[.int .i64 y.kind, .int .i64 y.fr, .int .i64 y.to_, .int .i64 y.term, .int .i64 y.index, .int .i64 y.logTerm, .int .i64 y.commit, .bool y.ok, .slice ea2 y.ents.length ec2, .int .i64 y.bi, .int .i64 y.bt, .slice va2 y.vot.length vc2, .string y.bd, .string y.dt] 27)) fun e w' => e = .returned (.tuple #[.string (mk (eM y)), .int .i64 0]) ∧ Below wB.heap.size wB w') := hid (fun y hy w9 ea2 ec2 va2 vc2 h ha => by
    have hb := h.alloc h.size (.cells #[.int .i64 y.kind, .int .i64 y.fr, .int .i64 y.to_, .int .i64 y.term, .int .i64 y.index, .int .i64 y.logTerm, .int .i64 y.commit, .bool y.ok, .slice ea2 y.ents.length ec2, .int .i64 y.bi, .int .i64 y.bt, .slice va2 y.vot.length vc2, .string y.bd, .string y.dt] 27)
    refine (HP.pack y _ _ (ha.below ((Below.refl _ _).alloc (Nat.le_refl _) _)) (msIn_right hy) (by have := (rightM_b hy).vl; omega)).mono fun e w' ⟨he, hb2⟩ => ⟨?_, hb.trans (hb2.mono hb.size)⟩
    rw [he]
    unfold packN
    rw [if_pos hy])
  have HSC := hid hSc
  have HXI := hid hxi
  clear hm hi hat hSc hx hxB hxi
  obtain ⟨k0, k1, k2, k3, k4, k5, k6, k7, k8, k9, k10, k11, k12, k13⟩ := HBx.out _ (Below.refl _ wB)
  have HW := hid hwB
  have hbs : smallM m = true := hsm
  rw [hbs] at HSm
  have HBS := hid hbs
  unfold maxLen at hsz hxl
  clear hbs obx hzB hbB
  unfold msV
  unfold msCells at *
  have hlI : (s.size : Int) ≤ 3000 := by omega
  have hlI2 : (xs.length : Int) ≤ 9 := by omega
  clear hsm
  have hs := HBS.out
  have hvl : m.vot.length ≤ 1000000 := by
    unfold smallM at hs
    simp only [Bool.and_eq_true, decide_eq_true_eq] at hs
    omega
  have K1 := hid (HP1.out hvl)
  have K3 := hid (HV1.out (by omega))
  have hev : (mk (eV xs)).size ≤ 100 + 10 := by
    have h1 := encs_length xs (fun x hx => HXI.out x hx)
    have h2 := eI_short (n := (xs.length : Int)) ⟨by omega, by omega⟩
    show (eV xs).length ≤ _
    unfold eV
    rw [List.length_append]
    omega
  have K4 : Hid (∀ wx, Below wB.heap.size wB wx → Calls Try.prog 21 #[.string (mk (eV xs) ++ s)] wx fun e w' => ∃ a cap, e = .returned (.tuple #[.slice a xs.length cap, .string s, .bool true]) ∧ Below wB.heap.size wB w' ∧ RAt numTy w' (.slice a xs.length cap) xs) := hid (fun wx h => by
    have h1 := HP.toVoters (mk (eV xs) ++ s).data.toList wx (by rw [str_len, ByteArray.size_append]; unfold maxLen; omega)
    rw [mk_of, append_data, mk_data, dV_eV (fun x hx => HXI.out x hx) hl2] at h1
    refine h1.mono fun e w' ht => ?_
    obtain ⟨a, cap, he, hb, hr⟩ := tvP_of ht
    exact ⟨a, cap, by rw [he]; rfl, h.trans (hb.mono h.size), hr⟩)
  have qcat : ¬ 9223372036854775807 < (mk (eV xs)).size + s.size := by omega
  have qs : (!s.toList == s.toList) = false := by simp
  have qs2 : (s.toList == s.toList) = true := beq_self_eq_true _
  obtain ⟨V, hV⟩ : ∃ V, mk (eV xs) = V := ⟨_, rfl⟩
  rw [hV] at K3 K4 qcat
  have hUn : Hid (∀ wx, Below wB.heap.size wB wx → Calls Try.prog 19 #[.string s] wx fun e w' => UnPost wx (unpackN s.data.toList) e w') := hid (fun wx h => HP.unpack s.data.toList wx (by rw [str_len]; omega))
  have hsc := HSC.out
  unfold packN at hsc
  have HBK : Hid (rightM m = true → ∀ wx, Below wB.heap.size wB wx → Calls Try.prog 19 #[.string (mk (eM m))] wx fun e w' => ∃ ea1 ec1 va1 vc1, e = .returned (.tuple #[.agg #[.int .i64 m.kind, .int .i64 m.fr, .int .i64 m.to_, .int .i64 m.term, .int .i64 m.index, .int .i64 m.logTerm, .int .i64 m.commit, .bool m.ok, .slice ea1 m.ents.length ec1, .int .i64 m.bi, .int .i64 m.bt, .slice va1 m.vot.length vc1, .string m.bd, .string m.dt], .int .i64 0]) ∧ Below wB.heap.size wB w' ∧ MsAt w' m (.slice ea1 m.ents.length ec1) (.slice va1 m.vot.length vc1)) := hid (fun hr wx h => by
    have h1 := HP.unpack (eM m) wx (by have := eM_short hr hs; omega)
    rw [(unpackN_iff _ _).2 ⟨hr, rfl⟩] at h1
    refine h1.mono fun e w' ht => ?_
    obtain ⟨ea1, ec1, va1, vc1, he, hb, ha⟩ := unP_of ht
    exact ⟨ea1, ec1, va1, vc1, he, h.trans (hb.mono h.size), ha⟩)
  clear HP HP1 HV1 hev hV hl hl2 hvl hsz hxl hs
  obtain ⟨hyr, hys⟩ := (unpackN_iff _ _).1 hu
  rw [hu] at hUn
  have K6 : Hid (∀ wx, Below wB.heap.size wB wx → Calls Try.prog 19 #[.string s] wx fun e w' => ∃ ea2 ec2 va2 vc2, e = .returned (.tuple #[.agg #[.int .i64 y.kind, .int .i64 y.fr, .int .i64 y.to_, .int .i64 y.term, .int .i64 y.index, .int .i64 y.logTerm, .int .i64 y.commit, .bool y.ok, .slice ea2 y.ents.length ec2, .int .i64 y.bi, .int .i64 y.bt, .slice va2 y.vot.length vc2, .string y.bd, .string y.dt], .int .i64 0]) ∧ Below wB.heap.size wB w' ∧ MsAt w' y (.slice ea2 y.ents.length ec2) (.slice va2 y.vot.length vc2)) := hid (fun wx h => (hUn.out wx h).mono fun e w' ht => by
    obtain ⟨ea2, ec2, va2, vc2, he, hb, ha⟩ := unP_of ht
    exact ⟨ea2, ec2, va2, vc2, he, h.trans (hb.mono h.size), ha⟩)
  have hPy := HPy.out y hyr
  rw [← hys, mk_of] at hPy
  clear HPy
  have HPy := hid hPy
  clear hPy hu hUn hys hyr
  rw [if_neg hr] at hsc
  cases hsc
  clear HBK hr
  go_enter Try.func5, Try.ntmps5
  go_wp2_with (first
      | (go_at_call 9; (with_reducible refine HS.out.mono ?_); rintro e w1 ⟨rfl, hb1⟩; obtain ⟨k0, k1, k2, k3, k4, k5, k6, k7, k8, k9, k10, k11, k12, k13⟩ := HBx.out _ hb1)
      | (go_at_call 10; (with_reducible refine (HSm.out _ hb1).mono ?_); rintro e w2 ⟨rfl, hb2⟩; obtain ⟨k0, k1, k2, k3, k4, k5, k6, k7, k8, k9, k10, k11, k12, k13⟩ := HBx.out _ hb2)
      | (go_at_call 11; (with_reducible refine (K1.out _ hb2).mono ?_); rintro e w3 ⟨rfl, hbv⟩)
      | (go_at_call 15; (with_reducible refine (K3.out _ hbv).mono ?_); rintro e w6 ⟨rfl, hb6⟩)
      | (go_at_call 21; (with_reducible refine (K4.out _ hb6).mono ?_); rintro e w7 ⟨ya, yc, rfl, hb7, hr7⟩; have K5 := hid (HSi.out _ _ hb7 hr7))
      | (go_at_call 22; (with_reducible refine K5.out.mono ?_); rintro e w8 ⟨rfl, hb8⟩)
      | (go_at_call 19; (with_reducible refine (K6.out _ hb8).mono ?_); rintro e w9 ⟨ea2, ec2, va2, vc2, rfl, hb9, ha9⟩; have K7 := hid (HPy.out _ _ _ _ _ hb9 ha9); clear ha9)
      | (go_at_call 11; (with_reducible refine K7.out.mono ?_); rintro e w10 ⟨rfl, hb10⟩))
  go_ret
  exact HPoss.out _ hb10
set_option maxHeartbeats 8000000 in
theorem msgBack_walk (HP : MsProg) (m : Ms) (ev vv v2 : Value) (s : ByteArray) (xs : List Int) (w : World) (hm : MsAt w m ev vv) (hi : MsIn m) (hsz : s.size ≤ maxLen) (hx : RAt numTy w v2 xs) (hxi : ∀ x ∈ xs, I64' x) (hxl : xs.length ≤ maxLen) :
    Calls Try.prog 5 #[msV m ev vv, .string s, v2] w (ShownPost w) := by
  by_cases hbig : smallM m = true ∧ s.size ≤ 3000 ∧ xs.length ≤ 9
  · obtain ⟨hsm, hl, hl2⟩ := hbig
    by_cases hr : rightM m = true
    · cases hu : unpackN s.data.toList with
      | none => exact msgBack_NR HP m ev vv v2 s xs w hm hi hsz hx hxi hxl hsm hl hl2 hr hu
      | some y => exact msgBack_SR HP m ev vv v2 s xs w hm hi hsz hx hxi hxl hsm hl hl2 hr y hu
    · cases hu : unpackN s.data.toList with
      | none => exact msgBack_NW HP m ev vv v2 s xs w hm hi hsz hx hxi hxl hsm hl hl2 hr hu
      | some y => exact msgBack_SW HP m ev vv v2 s xs w hm hi hsz hx hxi hxl hsm hl hl2 hr y hu
  obtain ⟨wB, hwB⟩ : ∃ wB, w.alloc (.cells (msCells m ev vv) 27) = wB := ⟨_, rfl⟩
  have hbB : Below w.heap.size w wB := by rw [← hwB]; exact (Below.refl _ _).alloc (Nat.le_refl _) _
  have obx : own wB w.heap.size (msCells m ev vv) 27 := by rw [← hwB]; exact own.new w _ _
  have hat := hm.below hbB
  have hxB := hx.below hbB
  have hzB : w.heap.size < wB.heap.size := by rw [← hwB]; simp
  have HPoss : Hid (∀ wx, Below wB.heap.size wB wx → ShownPost w (.returned (.bool true)) wx) := hid (fun wx h => ⟨rfl, hbB.trans (h.mono (by omega))⟩)
  have HBx := hid (fun wx (h : Below wB.heap.size wB wx) => msBox_of (obx.same (h.block _ obx.lt)))
  have HS := hid (shown_any HP wB)
  have HSm : Hid (∀ wx, Below wB.heap.size wB wx → Calls Try.prog 10 #[.agg #[.int .i64 m.kind, .int .i64 m.fr, .int .i64 m.to_, .int .i64 m.term, .int .i64 m.index, .int .i64 m.logTerm, .int .i64 m.commit, .bool m.ok, ev, .int .i64 m.bi, .int .i64 m.bt, vv, .string m.bd, .string m.dt]] wx fun e w' => e = .returned (.bool (smallM m)) ∧ Below wB.heap.size wB w') := hid (fun wx h => (small_any m ev vv (hat.below h) hi).mono fun e w' ⟨he, hb⟩ => ⟨he, h.trans (hb.mono h.size)⟩)
  obtain ⟨S, c, hSc⟩ : ∃ S c, packN m = (S, c) := ⟨_, _, rfl⟩
  have HP1 : Hid (m.vot.length ≤ 1000000 → ∀ wx, Below wB.heap.size wB wx → Calls Try.prog 11 #[.agg #[.int .i64 m.kind, .int .i64 m.fr, .int .i64 m.to_, .int .i64 m.term, .int .i64 m.index, .int .i64 m.logTerm, .int .i64 m.commit, .bool m.ok, ev, .int .i64 m.bi, .int .i64 m.bt, vv, .string m.bd, .string m.dt]] wx fun e w' => e = .returned (.tuple #[.string (mk S), .int .i64 c]) ∧ Below wB.heap.size wB w') := hid (fun hvl wx h => (HP.pack m ev vv (hat.below h) hi hvl).mono fun e w' ⟨he, hb⟩ => ⟨by rw [he, hSc], h.trans (hb.mono h.size)⟩)
  have HV1 : Hid (xs.length ≤ 1000000 → ∀ wx, Below wB.heap.size wB wx → Calls Try.prog 15 #[v2] wx fun e w' => e = .returned (.string (mk (eV xs))) ∧ Below wB.heap.size wB w') := hid (fun hl wx h => (HP.voters (hxB.below h) hxi hl).mono fun e w' ⟨he, hb⟩ => ⟨he, h.trans (hb.mono h.size)⟩)
  obtain ⟨ea, ec, rfl, _⟩ := ents_at hat.ents
  obtain ⟨va, vc, rfl, _⟩ := nums_at hat.vot
  obtain ⟨xa, xc, rfl, _⟩ := nums_at hxB
  have HSi : Hid (∀ ya wx, Below wB.heap.size wB wx → RAt numTy wx ya xs → Calls Try.prog 22 #[ya, .slice xa xs.length xc] wx fun e w' => e = .returned (.bool true) ∧ Below wB.heap.size wB w') := hid (fun ya wx h hr => (sameInts_same hr (hxB.below h) hxl).mono fun e w' ⟨he, hb⟩ => ⟨he, h.trans (hb.mono h.size)⟩)
  have HX : Hid (∀ w4 ea1 ec1 va1 vc1, Below wB.heap.size wB w4 → MsAt w4 m (.slice ea1 m.ents.length ec1) (.slice va1 m.vot.length vc1) → MsBox (w4.alloc (.cells #[.int .i64 m.kind, .int .i64 m.fr, .int .i64 m.to_, .int .i64 m.term, .int .i64 m.index, .int .i64 m.logTerm, .int .i64 m.commit, .bool m.ok, .slice ea1 m.ents.length ec1, .int .i64 m.bi, .int .i64 m.bt, .slice va1 m.vot.length vc1, .string m.bd, .string m.dt] 27)) w.heap.size m (.slice ea m.ents.length ec) (.slice va m.vot.length vc) ∧
      Hid (Calls Try.prog 20 #[.agg #[.int .i64 m.kind, .int .i64 m.fr, .int .i64 m.to_, .int .i64 m.term, .int .i64 m.index, .int .i64 m.logTerm, .int .i64 m.commit, .bool m.ok, .slice ea1 m.ents.length ec1, .int .i64 m.bi, .int .i64 m.bt, .slice va1 m.vot.length vc1, .string m.bd, .string m.dt], .agg #[.int .i64 m.kind, .int .i64 m.fr, .int .i64 m.to_, .int .i64 m.term, .int .i64 m.index, .int .i64 m.logTerm, .int .i64 m.commit, .bool m.ok, .slice ea m.ents.length ec, .int .i64 m.bi, .int .i64 m.bt, .slice va m.vot.length vc, .string m.bd, .string m.dt]] (w4.alloc (.cells #[.int .i64 m.kind, .int .i64 m.fr, .int .i64 m.to_, .int .i64 m.term, .int .i64 m.index, .int .i64 m.logTerm, .int .i64 m.commit, .bool m.ok, .slice ea1 m.ents.length ec1, .int .i64 m.bi, .int .i64 m.bt, .slice va1 m.vot.length vc1, .string m.bd, .string m.dt] 27)) fun e w' => e = .returned (.bool true) ∧ Below wB.heap.size wB w')) := hid (fun w4 ea1 ec1 va1 vc1 h ha => by
    have hb := h.alloc h.size (.cells #[.int .i64 m.kind, .int .i64 m.fr, .int .i64 m.to_, .int .i64 m.term, .int .i64 m.index, .int .i64 m.logTerm, .int .i64 m.commit, .bool m.ok, .slice ea1 m.ents.length ec1, .int .i64 m.bi, .int .i64 m.bt, .slice va1 m.vot.length vc1, .string m.bd, .string m.dt] 27)
    refine ⟨HBx.out _ hb, hid ?_⟩
    exact (same_same m _ _ _ _ (ha.below ((Below.refl _ _).alloc (Nat.le_refl _) _)) (hat.below hb) hi.el hi.vl).mono fun e w' ⟨he, hb2⟩ => ⟨he, hb.trans (hb2.mono hb.size)⟩)
  have HPy : Hid (∀ (y : Ms), rightM y = true → ∀ w9 ea2 ec2 va2 vc2, Below wB.heap.size wB w9 → MsAt w9 y (.slice ea2 y.ents.length ec2) (.slice va2 y.vot.length vc2) → Calls Try.prog 11 #[.agg #[.int .i64 y.kind, .int .i64 y.fr, .int .i64 y.to_, .int .i64 y.term, .int .i64 y.index, .int .i64 y.logTerm, .int .i64 y.commit, .bool y.ok, .slice ea2 y.ents.length ec2, .int .i64 y.bi, .int .i64 y.bt, .slice va2 y.vot.length vc2, .string y.bd, .string y.dt]] (w9.alloc (.cells #[.int .i64 y.kind, .int .i64 y.fr, .int .i64 y.to_, .int .i64 y.term, .int .i64 y.index, .int .i64 y.logTerm, .int .i64 y.commit, .bool y.ok, .slice ea2 y.ents.length ec2, .int .i64 y.bi, .int .i64 y.bt, .slice va2 y.vot.length vc2, .string y.bd, .string y.dt] 27)) fun e w' => e = .returned (.tuple #[.string (mk (eM y)), .int .i64 0]) ∧ Below wB.heap.size wB w') := hid (fun y hy w9 ea2 ec2 va2 vc2 h ha => by
    have hb := h.alloc h.size (.cells #[.int .i64 y.kind, .int .i64 y.fr, .int .i64 y.to_, .int .i64 y.term, .int .i64 y.index, .int .i64 y.logTerm, .int .i64 y.commit, .bool y.ok, .slice ea2 y.ents.length ec2, .int .i64 y.bi, .int .i64 y.bt, .slice va2 y.vot.length vc2, .string y.bd, .string y.dt] 27)
    refine (HP.pack y _ _ (ha.below ((Below.refl _ _).alloc (Nat.le_refl _) _)) (msIn_right hy) (by have := (rightM_b hy).vl; omega)).mono fun e w' ⟨he, hb2⟩ => ⟨?_, hb.trans (hb2.mono hb.size)⟩
    rw [he]
    unfold packN
    rw [if_pos hy])
  have HSC := hid hSc
  have HXI := hid hxi
  clear hm hi hat hSc hx hxB hxi
  obtain ⟨k0, k1, k2, k3, k4, k5, k6, k7, k8, k9, k10, k11, k12, k13⟩ := HBx.out _ (Below.refl _ wB)
  have HW := hid hwB
  obtain ⟨bs, hbs⟩ : ∃ bs, smallM m = bs := ⟨_, rfl⟩
  rw [hbs] at HSm
  have HBS := hid hbs
  unfold maxLen at hsz hxl
  clear hbs obx hzB hbB
  unfold msV
  unfold msCells at *
  cases bs with
  | false =>
    clear HP
    go_enter Try.func5, Try.ntmps5
    go_wp2_with (first
      | (go_at_call 9; (with_reducible refine HS.out.mono ?_); rintro e w1 ⟨rfl, hb1⟩; obtain ⟨k0, k1, k2, k3, k4, k5, k6, k7, k8, k9, k10, k11, k12, k13⟩ := HBx.out _ hb1)
      | (go_at_call 10; (with_reducible refine (HSm.out _ hb1).mono ?_); rintro e w2 ⟨rfl, hb2⟩; obtain ⟨k0, k1, k2, k3, k4, k5, k6, k7, k8, k9, k10, k11, k12, k13⟩ := HBx.out _ hb2))
    go_ret
    exact HPoss.out _ hb2
  | true =>
  by_cases hl : s.size ≤ 3000
  case neg =>
    clear HP
    have hlI : (3000 : Int) < (s.size : Int) := by omega
    go_enter Try.func5, Try.ntmps5
    go_wp2_with (first
      | (go_at_call 9; (with_reducible refine HS.out.mono ?_); rintro e w1 ⟨rfl, hb1⟩; obtain ⟨k0, k1, k2, k3, k4, k5, k6, k7, k8, k9, k10, k11, k12, k13⟩ := HBx.out _ hb1)
      | (go_at_call 10; (with_reducible refine (HSm.out _ hb1).mono ?_); rintro e w2 ⟨rfl, hb2⟩; obtain ⟨k0, k1, k2, k3, k4, k5, k6, k7, k8, k9, k10, k11, k12, k13⟩ := HBx.out _ hb2))
    go_ret
    exact HPoss.out _ hb2
  have hlI : (s.size : Int) ≤ 3000 := by omega
  by_cases hl2 : xs.length ≤ 9
  case neg =>
    clear HP
    have hlI2 : (9 : Int) < (xs.length : Int) := by omega
    go_enter Try.func5, Try.ntmps5
    go_wp2_with (first
      | (go_at_call 9; (with_reducible refine HS.out.mono ?_); rintro e w1 ⟨rfl, hb1⟩; obtain ⟨k0, k1, k2, k3, k4, k5, k6, k7, k8, k9, k10, k11, k12, k13⟩ := HBx.out _ hb1)
      | (go_at_call 10; (with_reducible refine (HSm.out _ hb1).mono ?_); rintro e w2 ⟨rfl, hb2⟩; obtain ⟨k0, k1, k2, k3, k4, k5, k6, k7, k8, k9, k10, k11, k12, k13⟩ := HBx.out _ hb2))
    go_ret
    exact HPoss.out _ hb2
  have hlI2 : (xs.length : Int) ≤ 9 := by omega
  exact absurd ⟨HBS.out, hl, hl2⟩ hbig
end Go.Proofs.Ytppjojjejabaeaa
