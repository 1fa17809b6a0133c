/-
  LAYER 7 (msg): MsgEnds: its walk. (Written by wip/tools/gen7_ends.py.)
-/
import Derived.Test.YtppjojjejabaeaaMsProg
import Derived.Deep.DeepCutAuto
import Derived.Deep.RegionHeld3
namespace Go.Proofs.Ytppjojjejabaeaa
open Go.RowKit
set_option linter.unusedVariables false
set_option maxRecDepth 100000

theorem txt_short {t : ByteArray} {n : Nat} (h : t.size ≤ n) (hn : n ≤ 4000000) : (txt t.data.toList).length ≤ 10 + n := by
  unfold txt
  rw [List.length_append, str_len]
  have := enc_length (nat64_lt (n := (t.size : Int)) (by omega) (by omega))
  omega
theorem eI_short {n : Int} (h : i64b n) : (eI n).length ≤ 10 := enc_length (nat64_lt h.1 h.2)
theorem eEs_short : ∀ (es : List Me), (∀ e ∈ es, i64b e.idx ∧ i64b e.term ∧ i64b e.kind ∧ e.dt.size ≤ 600) → (eEs es).length ≤ 700 * es.length
  | [], _ => by simp [eEs]
  | e :: es, h => by
    have h1 := eEs_short es (fun x hx => h x (by simp [hx]))
    obtain ⟨a, b, c, d⟩ := h e (by simp)
    have ha := eI_short a
    have hb := eI_short b
    have hc := eI_short c
    have hd := txt_short d (by omega)
    show (eE e ++ eEs es).length ≤ _
    simp only [eE, List.length_append, List.length_cons]
    omega
theorem eM_short {m : Ms} (hr : rightM m = true) (hs : smallM m = true) : (eM m).length ≤ 100000 := by
  have hB := rightM_b hr
  unfold smallM at hs
  simp only [Bool.and_eq_true, decide_eq_true_eq, List.all_eq_true] at hs
  obtain ⟨⟨⟨⟨h1, h2⟩, h3⟩, h4⟩, h5⟩ := hs
  have a1 := encs_length (heads m) hB.heads
  have a2 := eEs_short m.ents (fun e he => ⟨(hB.ents e he).1, (hB.ents e he).2.1, (hB.ents e he).2.2.1, by have := h5 e he; unfold smE at this; simpa using this⟩)
  have a3 := encs_length m.vot hB.vot
  have a4 := eI_short hB.bi
  have a5 := eI_short hB.bt
  have a6 := txt_short h3 (by omega)
  have a7 := txt_short h4 (by omega)
  have a8 := eI_short (n := (m.ents.length : Int)) ⟨by omega, by omega⟩
  have a9 := eI_short (n := (m.vot.length : Int)) ⟨by omega, by omega⟩
  have a0 : (heads m).length = 7 := rfl
  have hel := hB.el
  have hvl := hB.vl
  unfold eM eV
  simp only [List.length_append]
  have : (eB m.ok).length = 1 := rfl
  omega
set_option maxHeartbeats 8000000 in
theorem msgEnds_walk (HP : MsProg) (m : Ms) (ev vv : Value) (at_ : Int) (more : ByteArray) (w : World) (hm : MsAt w m ev vv) (hi : MsIn m) (hat_ : I64' at_) (hmore : more.size ≤ maxLen) :
    Calls Try.prog 6 #[msV m ev vv, .int .i64 at_, .string more] w (ShownPost w) := by
  obtain ⟨wB, hwB⟩ : ∃ wB, w.alloc (.cells (msCells m ev vv) 27) = wB := ⟨_, rfl⟩
  have hbB : Below w.heap.size w wB := by rw [← hwB]; exact (Below.refl _ _).alloc (Nat.le_refl _) _
  have obx : own wB w.heap.size (msCells m ev vv) 27 := by rw [← hwB]; exact own.new w _ _
  have hat := hm.below hbB
  have hzB : w.heap.size < wB.heap.size := by rw [← hwB]; simp
  have HPoss : Hid (∀ wx, Below wB.heap.size wB wx → ShownPost w (.returned (.bool true)) wx) := hid (fun wx h => ⟨rfl, hbB.trans (h.mono (by omega))⟩)
  have HBx := hid (fun wx (h : Below wB.heap.size wB wx) => msBox_of (obx.same (h.block _ obx.lt)))
  have HS := hid (shown_any HP wB)
  have HSm : Hid (∀ wx, Below wB.heap.size wB wx → Calls Try.prog 10 #[.agg #[.int .i64 m.kind, .int .i64 m.fr, .int .i64 m.to_, .int .i64 m.term, .int .i64 m.index, .int .i64 m.logTerm, .int .i64 m.commit, .bool m.ok, ev, .int .i64 m.bi, .int .i64 m.bt, vv, .string m.bd, .string m.dt]] wx fun e w' => e = .returned (.bool (smallM m)) ∧ Below wB.heap.size wB w') := hid (fun wx h => (small_any m ev vv (hat.below h) hi).mono fun e w' ⟨he, hb⟩ => ⟨he, h.trans (hb.mono h.size)⟩)
  obtain ⟨S, c, hSc⟩ : ∃ S c, packN m = (S, c) := ⟨_, _, rfl⟩
  have HP1 : Hid (m.vot.length ≤ 1000000 → ∀ wx, Below wB.heap.size wB wx → Calls Try.prog 11 #[.agg #[.int .i64 m.kind, .int .i64 m.fr, .int .i64 m.to_, .int .i64 m.term, .int .i64 m.index, .int .i64 m.logTerm, .int .i64 m.commit, .bool m.ok, ev, .int .i64 m.bi, .int .i64 m.bt, vv, .string m.bd, .string m.dt]] wx fun e w' => e = .returned (.tuple #[.string (mk S), .int .i64 c]) ∧ Below wB.heap.size wB w') := hid (fun hvl wx h => (HP.pack m ev vv (hat.below h) hi hvl).mono fun e w' ⟨he, hb⟩ => ⟨by rw [he, hSc], h.trans (hb.mono h.size)⟩)
  have HU : Hid (∀ s : ByteArray, s.size ≤ 10000000 → unpackN s.data.toList = none → ∀ wx, Below wB.heap.size wB wx → Calls Try.prog 19 #[.string s] wx fun e w' => e = .returned (.tuple #[.agg #[.int .i64 0, .int .i64 0, .int .i64 0, .int .i64 0, .int .i64 0, .int .i64 0, .int .i64 0, .bool false, .slice none 0 0, .int .i64 0, .int .i64 0, .slice none 0 0, .string ⟨#[]⟩, .string ⟨#[]⟩], .int .i64 8]) ∧ Below wB.heap.size wB w') := hid (fun s hl hn wx h => by
    have := HP.unpack s.data.toList wx hl
    rw [hn] at this
    exact this.mono fun e w' ⟨hb, he⟩ => ⟨he, h.trans (hb.mono h.size)⟩)
  obtain ⟨ea, ec, rfl, _⟩ := ents_at hat.ents
  obtain ⟨va, vc, rfl, _⟩ := nums_at hat.vot
  have HSC := hid hSc
  clear hm hi hat hSc
  obtain ⟨k0, k1, k2, k3, k4, k5, k6, k7, k8, k9, k10, k11, k12, k13⟩ := HBx.out _ (Below.refl _ wB)
  have HW := hid hwB
  obtain ⟨bs, hbs⟩ : ∃ bs, smallM m = bs := ⟨_, rfl⟩
  rw [hbs] at HSm
  have HBS := hid hbs
  unfold maxLen at hmore
  clear hbs obx hzB hbB HP
  unfold msV
  unfold msCells at *
  cases bs with
  | false =>
    go_enter Try.func6, Try.ntmps6
    go_wp2_with (first
      | (go_at_call 9; (with_reducible refine HS.out.mono ?_); rintro e w1 ⟨rfl, hb1⟩; obtain ⟨k0, k1, k2, k3, k4, k5, k6, k7, k8, k9, k10, k11, k12, k13⟩ := HBx.out _ hb1)
      | (go_at_call 10; (with_reducible refine (HSm.out _ hb1).mono ?_); rintro e w2 ⟨rfl, hb2⟩; obtain ⟨k0, k1, k2, k3, k4, k5, k6, k7, k8, k9, k10, k11, k12, k13⟩ := HBx.out _ hb2))
    go_ret
    exact HPoss.out _ hb2
  | true =>
  by_cases hl : more.size ≤ 100
  case neg =>
    have hlI : (100 : Int) < (more.size : Int) := by omega
    go_enter Try.func6, Try.ntmps6
    go_wp2_with (first
      | (go_at_call 9; (with_reducible refine HS.out.mono ?_); rintro e w1 ⟨rfl, hb1⟩; obtain ⟨k0, k1, k2, k3, k4, k5, k6, k7, k8, k9, k10, k11, k12, k13⟩ := HBx.out _ hb1)
      | (go_at_call 10; (with_reducible refine (HSm.out _ hb1).mono ?_); rintro e w2 ⟨rfl, hb2⟩; obtain ⟨k0, k1, k2, k3, k4, k5, k6, k7, k8, k9, k10, k11, k12, k13⟩ := HBx.out _ hb2))
    go_ret
    exact HPoss.out _ hb2
  have hlI : (more.size : Int) ≤ 100 := by omega
  by_cases he : more = ⟨#[]⟩
  case pos =>
    subst he
    go_enter Try.func6, Try.ntmps6
    go_wp2_with (first
      | (go_at_call 9; (with_reducible refine HS.out.mono ?_); rintro e w1 ⟨rfl, hb1⟩; obtain ⟨k0, k1, k2, k3, k4, k5, k6, k7, k8, k9, k10, k11, k12, k13⟩ := HBx.out _ hb1)
      | (go_at_call 10; (with_reducible refine (HSm.out _ hb1).mono ?_); rintro e w2 ⟨rfl, hb2⟩; obtain ⟨k0, k1, k2, k3, k4, k5, k6, k7, k8, k9, k10, k11, k12, k13⟩ := HBx.out _ hb2))
    go_ret
    exact HPoss.out _ hb2
  have hq : (more.toList == []) = false := by
    rw [Lib.toList_data]
    simp only [beq_eq_false_iff_ne]
    intro e
    exact he (str_ext e)
  have hs := HBS.out
  have hvl : m.vot.length ≤ 1000000 := by
    unfold smallM at hs
    simp only [Bool.and_eq_true, decide_eq_true_eq] at hs
    omega
  have K1 := hid (HP1.out hvl)
  clear HP1
  have hsc := HSC.out
  unfold packN at hsc
  by_cases hr : rightM m = true
  case neg =>
    rw [if_neg hr] at hsc
    cases hsc
    have q0 : ((mk []).toList == []) = true := by rw [Lib.toList_data]; rfl
    clear hr hs hvl he hl hmore
    go_enter Try.func6, Try.ntmps6
    go_wp2_with (first
      | (go_at_call 9; (with_reducible refine HS.out.mono ?_); rintro e w1 ⟨rfl, hb1⟩; obtain ⟨k0, k1, k2, k3, k4, k5, k6, k7, k8, k9, k10, k11, k12, k13⟩ := HBx.out _ hb1)
      | (go_at_call 10; (with_reducible refine (HSm.out _ hb1).mono ?_); rintro e w2 ⟨rfl, hb2⟩; obtain ⟨k0, k1, k2, k3, k4, k5, k6, k7, k8, k9, k10, k11, k12, k13⟩ := HBx.out _ hb2)
      | (go_at_call 11; (with_reducible refine (K1.out _ hb2).mono ?_); rintro e w3 ⟨rfl, hb3⟩))
    go_ret
    exact HPoss.out _ hb3
  rw [if_pos hr] at hsc
  cases hsc
  have hlen := eM_short hr hs
  have hpos := eM_pos m
  have hzs : (mk (eM m)).size = (eM m).length := rfl
  have hpk := pickZ_range at_ ((mk (eM m)).size : Int) (by omega)
  have HPi := hid (fun wx => pick_any at_ ((mk (eM m)).size : Int) wx (by omega) (by omega) hat_.1 hat_.2)
  obtain ⟨p, hp⟩ : ∃ p : Nat, pickZ at_ ((mk (eM m)).size : Int) = (p : Int) := ⟨(pickZ at_ ((mk (eM m)).size : Int)).toNat, by omega⟩
  rw [hp] at HPi hpk
  have HSl := hid (fun wx => slice_h (s := mk (eM m)) (hi := (p : Int)) (l := (eM m).take p) (by omega) (by omega) (by rw [mk_data, Int.toNat_natCast]) wx)
  have HU1 := hid (HU.out (mk ((eM m).take p)) (by show ((eM m).take p).length ≤ _; rw [List.length_take]; omega) (by rw [mk_data]; exact unpackN_cut hr p (by omega)))
  have HU2 := hid (HU.out (mk (eM m) ++ more) (by rw [ByteArray.size_append]; omega) (by
    rw [append_data, mk_data]
    exact unpackN_more hr _ (fun e => he (str_ext e))))
  have q1 : ¬ 9223372036854775807 < (mk (eM m)).size + more.size := by omega
  have hslr := HSl.out
  obtain ⟨S, hS⟩ : ∃ S, mk (eM m) = S := ⟨_, rfl⟩
  obtain ⟨S2, hS2⟩ : ∃ S2, mk ((eM m).take p) = S2 := ⟨_, rfl⟩
  rw [hS] at K1 HPi HU2 q1 hslr
  rw [hS2] at HU1 hslr
  have HZ : Hid (∀ wx, Below wB.heap.size wB wx → Below wB.heap.size wB (wx.alloc (.cells #[.int .i64 0, .int .i64 0, .int .i64 0, .int .i64 0, .int .i64 0, .int .i64 0, .int .i64 0, .bool false, .slice none 0 0, .int .i64 0, .int .i64 0, .slice none 0 0, .string ⟨#[]⟩, .string ⟨#[]⟩] 27))) := hid (fun wx h => h.alloc h.size _)
  clear hr hs hvl he hl hmore hlen hpos hpk hp HSl HU hS hS2 hzs
  go_enter Try.func6, Try.ntmps6
  go_wp2_with (first
    | (go_at_call 9; (with_reducible refine HS.out.mono ?_); rintro e w1 ⟨rfl, hb1⟩; obtain ⟨k0, k1, k2, k3, k4, k5, k6, k7, k8, k9, k10, k11, k12, k13⟩ := HBx.out _ hb1)
    | (go_at_call 10; (with_reducible refine (HSm.out _ hb1).mono ?_); rintro e w2 ⟨rfl, hb2⟩; obtain ⟨k0, k1, k2, k3, k4, k5, k6, k7, k8, k9, k10, k11, k12, k13⟩ := HBx.out _ hb2)
    | (go_at_call 11; (with_reducible refine (K1.out _ hb2).mono ?_); rintro e w3 ⟨rfl, hb3⟩)
    | (go_at_call 17; (with_reducible refine (HPi.out _).mono ?_); rintro e w4 ⟨rfl, rfl⟩)
    | (go_at_call 19; (with_reducible refine (HU1.out _ hb3).mono ?_); rintro e w5 ⟨rfl, hb5⟩; have hb6 := HZ.out _ hb5)
    | (go_at_call 19; (with_reducible refine (HU2.out _ hb6).mono ?_); rintro e w7 ⟨rfl, hb7⟩; have hb8 := HZ.out _ hb7))
  go_ret
  exact HPoss.out _ hb8
end Go.Proofs.Ytppjojjejabaeaa
