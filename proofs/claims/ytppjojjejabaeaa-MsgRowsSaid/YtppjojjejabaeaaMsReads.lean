/-
  LAYER 7 (msg): the laws' reads. (Written by wip/tools/gen7_reads.py.)
-/
import Derived.Test.YtppjojjejabaeaaMsProg
import Derived.Deep.DeepCutAuto
import Derived.Deep.RegionHeld3
namespace Go.Proofs.Ytppjojjejabaeaa
open Go.RowKit
set_option linter.unusedVariables false
set_option maxRecDepth 100000

def UnP (M : Ms) (c : Int) (w : World) (e : Ending) (w' : World) : Prop := ∃ ea ec va vc, e = .returned (.tuple #[.agg #[.int .i64 M.kind, .int .i64 M.fr, .int .i64 M.to_, .int .i64 M.term, .int .i64 M.index, .int .i64 M.logTerm, .int .i64 M.commit, .bool M.ok, .slice ea M.ents.length ec, .int .i64 M.bi, .int .i64 M.bt, .slice va M.vot.length vc, .string M.bd, .string M.dt], .int .i64 c]) ∧ Below w.heap.size w w' ∧ MsAt w' M (.slice ea M.ents.length ec) (.slice va M.vot.length vc)
theorem unP_of {q : Option Ms} {w : World} {e : Ending} {w' : World} (h : UnPost w q e w') : UnP (q.getD zMs) (if q.isSome = true then 0 else 8) w e w' := by
  obtain ⟨hb, h⟩ := h
  cases q with
  | none => exact ⟨none, 0, none, 0, h, hb, at_Z w'⟩
  | some m =>
    obtain ⟨ev, vv, he, ha⟩ := h
    obtain ⟨ea, ec, rfl, _⟩ := ents_at ha.ents
    obtain ⟨va, vc, rfl, _⟩ := nums_at ha.vot
    exact ⟨ea, ec, va, vc, he, hb, ha⟩
def TvP (xs : List Int) (r : ByteArray) (f : Bool) (w : World) (e : Ending) (w' : World) : Prop := ∃ a cap, e = .returned (.tuple #[.slice a xs.length cap, .string r, .bool f]) ∧ Below w.heap.size w w' ∧ RAt numTy w' (.slice a xs.length cap) xs
theorem tvP_of {q : Option (List Int × List UInt8)} {w : World} {e : Ending} {w' : World} (h : TVPost w q e w') : TvP (q.getD ([], [])).1 (mk (q.getD ([], [])).2) q.isSome w e w' := by
  unfold TVPost at h
  cases q with
  | none => exact ⟨none, 0, h.1, h.2, (rOwn_nil w').rAt⟩
  | some p =>
    obtain ⟨xs, r⟩ := p
    obtain ⟨a, cap, he, hm⟩ := h
    exact ⟨a, cap, he, hm.below, hm.row.rAt⟩
theorem unpackN_size (l : List UInt8) : ((unpackN l).getD zMs).ents.length ≤ maxLen ∧ ((unpackN l).getD zMs).vot.length ≤ maxLen := by
  cases h : unpackN l with
  | none => exact ⟨by decide, by decide⟩
  | some m =>
    have hB := rightM_b ((unpackN_iff _ _).1 h).1
    have h1 := hB.el
    have h2 := hB.vl
    unfold maxLen
    exact ⟨by show m.ents.length ≤ _; omega, by show m.vot.length ≤ _; omega⟩
theorem dV_size (l : List UInt8) : (((dV l).getD ([], [])).1).length ≤ maxLen := by
  cases h : dV l with
  | none => exact Nat.zero_le _
  | some p =>
    obtain ⟨xs, r⟩ := p
    have := (dV_sound h).2.1
    unfold maxLen
    show xs.length ≤ _
    omega
set_option maxHeartbeats 8000000 in
theorem reads_any (HP : MsProg) (s : ByteArray) (hs : s.size ≤ 10000000) (w : World) : Calls Try.prog 18 #[.string s] w (ShownPost w) := by
  have hsz := unpackN_size s.data.toList
  have hdz := dV_size s.data.toList
  have hU1 : ∀ wx, Calls Try.prog 19 #[.string s] wx (UnP ((unpackN s.data.toList).getD zMs) (if (unpackN s.data.toList).isSome = true then 0 else 8) wx) := fun wx => (HP.unpack s.data.toList wx hs).mono fun e w' h => unP_of h
  have hU2 : ∀ wx, Calls Try.prog 39 #[.string s] wx (UnP ((unpackN s.data.toList).getD zMs) (if (unpackN s.data.toList).isSome = true then 0 else 8) wx) := fun wx => (refUnpack_any s.data.toList wx hs).mono fun e w' h => unP_of h
  have hml : s.data.toList.length ≤ maxLen := by unfold maxLen; rw [str_len]; omega
  have hV1 : ∀ wx, Calls Try.prog 21 #[.string s] wx (TvP ((dV s.data.toList).getD ([], [])).1 (mk ((dV s.data.toList).getD ([], [])).2) (dV s.data.toList).isSome wx) := fun wx => (HP.toVoters s.data.toList wx hml).mono fun e w' h => tvP_of h
  have hV2 : ∀ wx, Calls Try.prog 40 #[.string s] wx (TvP ((dV s.data.toList).getD ([], [])).1 (mk ((dV s.data.toList).getD ([], [])).2) (dV s.data.toList).isSome wx) := fun wx => (refToVoters_any s.data.toList wx hml).mono fun e w' h => tvP_of h
  generalize (unpackN s.data.toList).getD zMs = M at *
  generalize (if (unpackN s.data.toList).isSome = true then (0 : Int) else 8) = c at *
  generalize ((dV s.data.toList).getD ([], [])).1 = xs at *
  generalize mk ((dV s.data.toList).getD ([], [])).2 = r at *
  generalize (dV s.data.toList).isSome = f at *
  unfold UnP at hU1 hU2
  unfold TvP at hV1 hV2
  have U1 := hid hU1
  have U2 := hid hU2
  have V1 := hid hV1
  have V2 := hid hV2
  have HSa : Hid (∀ wx ea1 ec1 va1 vc1 ea2 ec2 va2 vc2, MsAt wx M (.slice ea1 M.ents.length ec1) (.slice va1 M.vot.length vc1) → MsAt wx M (.slice ea2 M.ents.length ec2) (.slice va2 M.vot.length vc2) → Calls Try.prog 20 #[.agg #[.int .i64 M.kind, .int .i64 M.fr, .int .i64 M.to_, .int .i64 M.term, .int .i64 M.index, .int .i64 M.logTerm, .int .i64 M.commit, .bool M.ok, .slice ea1 M.ents.length ec1, .int .i64 M.bi, .int .i64 M.bt, .slice va1 M.vot.length vc1, .string M.bd, .string M.dt], .agg #[.int .i64 M.kind, .int .i64 M.fr, .int .i64 M.to_, .int .i64 M.term, .int .i64 M.index, .int .i64 M.logTerm, .int .i64 M.commit, .bool M.ok, .slice ea2 M.ents.length ec2, .int .i64 M.bi, .int .i64 M.bt, .slice va2 M.vot.length vc2, .string M.bd, .string M.dt]] wx fun e w' => e = .returned (.bool true) ∧ Below wx.heap.size wx w') := hid (fun wx ea1 ec1 va1 vc1 ea2 ec2 va2 vc2 h1 h2 => same_same M _ _ _ _ h1 h2 hsz.1 hsz.2)
  have HSi : Hid (∀ wx v1 v2, RAt numTy wx v1 xs → RAt numTy wx v2 xs → Calls Try.prog 22 #[v1, v2] wx fun e w' => e = .returned (.bool true) ∧ Below wx.heap.size wx w') := hid (fun wx v1 v2 h1 h2 => sameInts_same h1 h2 hdz)
  have HC : Hid (∀ w1 ea1 ec1 va1 vc1 w2 ea2 ec2 va2 vc2 w3 w4, Below w.heap.size w w1 → Below (w1.alloc (.cells #[.int .i64 M.kind, .int .i64 M.fr, .int .i64 M.to_, .int .i64 M.term, .int .i64 M.index, .int .i64 M.logTerm, .int .i64 M.commit, .bool M.ok, .slice ea1 M.ents.length ec1, .int .i64 M.bi, .int .i64 M.bt, .slice va1 M.vot.length vc1, .string M.bd, .string M.dt] 27)).heap.size (w1.alloc (.cells #[.int .i64 M.kind, .int .i64 M.fr, .int .i64 M.to_, .int .i64 M.term, .int .i64 M.index, .int .i64 M.logTerm, .int .i64 M.commit, .bool M.ok, .slice ea1 M.ents.length ec1, .int .i64 M.bi, .int .i64 M.bt, .slice va1 M.vot.length vc1, .string M.bd, .string M.dt] 27)) w2 → Below (w2.alloc (.cells #[.int .i64 M.kind, .int .i64 M.fr, .int .i64 M.to_, .int .i64 M.term, .int .i64 M.index, .int .i64 M.logTerm, .int .i64 M.commit, .bool M.ok, .slice ea2 M.ents.length ec2, .int .i64 M.bi, .int .i64 M.bt, .slice va2 M.vot.length vc2, .string M.bd, .string M.dt] 27)).heap.size (w2.alloc (.cells #[.int .i64 M.kind, .int .i64 M.fr, .int .i64 M.to_, .int .i64 M.term, .int .i64 M.index, .int .i64 M.logTerm, .int .i64 M.commit, .bool M.ok, .slice ea2 M.ents.length ec2, .int .i64 M.bi, .int .i64 M.bt, .slice va2 M.vot.length vc2, .string M.bd, .string M.dt] 27)) w3 → Below w3.heap.size w3 w4 → MsAt w1 M (.slice ea1 M.ents.length ec1) (.slice va1 M.vot.length vc1) → MsAt w2 M (.slice ea2 M.ents.length ec2) (.slice va2 M.vot.length vc2) →
      MsBox w4 w1.heap.size M (.slice ea1 M.ents.length ec1) (.slice va1 M.vot.length vc1) ∧ MsBox w4 w2.heap.size M (.slice ea2 M.ents.length ec2) (.slice va2 M.vot.length vc2) ∧ Hid (MsAt w4 M (.slice ea1 M.ents.length ec1) (.slice va1 M.vot.length vc1) ∧ MsAt w4 M (.slice ea2 M.ents.length ec2) (.slice va2 M.vot.length vc2) ∧ Below w.heap.size w w4)) := hid (fun w1 ea1 ec1 va1 vc1 w2 ea2 ec2 va2 vc2 w3 w4 h1 h2 h3 h4 a1 a2 => by
    have b34 := h3.trans (h4.mono h3.size)
    have bB : Below w2.heap.size w2 (w2.alloc (.cells #[.int .i64 M.kind, .int .i64 M.fr, .int .i64 M.to_, .int .i64 M.term, .int .i64 M.index, .int .i64 M.logTerm, .int .i64 M.commit, .bool M.ok, .slice ea2 M.ents.length ec2, .int .i64 M.bi, .int .i64 M.bt, .slice va2 M.vot.length vc2, .string M.bd, .string M.dt] 27)) := (Below.refl _ _).alloc (Nat.le_refl _) _
    have b24 := bB.trans (b34.mono bB.size)
    have bA4 := h2.trans (b24.mono h2.size)
    have bA : Below w1.heap.size w1 (w1.alloc (.cells #[.int .i64 M.kind, .int .i64 M.fr, .int .i64 M.to_, .int .i64 M.term, .int .i64 M.index, .int .i64 M.logTerm, .int .i64 M.commit, .bool M.ok, .slice ea1 M.ents.length ec1, .int .i64 M.bi, .int .i64 M.bt, .slice va1 M.vot.length vc1, .string M.bd, .string M.dt] 27)) := (Below.refl _ _).alloc (Nat.le_refl _) _
    have b14 := bA.trans (bA4.mono bA.size)
    exact ⟨msBox_of ((own.new w1 _ 27).same (bA4.block _ (by simp))), msBox_of ((own.new w2 _ 27).same (b34.block _ (by simp))), hid ⟨a1.below b14, a2.below b24, h1.trans (b14.mono h1.size)⟩⟩)
  have qc : (c == c) = true := beq_self_eq_true _
  have qf : (f == f) = true := beq_self_eq_true _
  have qr : (r.toList == r.toList) = true := beq_self_eq_true _
  have HPoss : Hid (∀ wx wy, Below w.heap.size w wx → Below wx.heap.size wx wy → ∀ wz, Below wy.heap.size wy wz → ShownPost w (.returned (.bool true)) wz) := hid (fun wx wy h1 h2 wz h3 => ⟨rfl, h1.trans ((h2.trans (h3.mono h2.size)).mono h1.size)⟩)
  clear hU1 hU2 hV1 hV2 hsz hdz hml hs HP
  go_enter Try.func18, Try.ntmps18
  go_wp2_with (first
    | (go_at_call 19; (with_reducible refine (U1.out _).mono ?_); rintro e w1 ⟨ea1, ec1, va1, vc1, rfl, hb1, ha1⟩; have HA1 := hid ha1; clear ha1)
    | (go_at_call 39; (with_reducible refine (U2.out _).mono ?_); rintro e w2 ⟨ea2, ec2, va2, vc2, rfl, hb2, ha2⟩; have HA2 := hid ha2; clear ha2)
    | (go_at_call 21; (with_reducible refine (V1.out _).mono ?_); rintro e w3 ⟨xa1, xc1, rfl, hb3, hr3⟩; have HR3 := hid hr3; clear hr3)
    | (go_at_call 40; (with_reducible refine (V2.out _).mono ?_); rintro e w4 ⟨xa2, xc2, rfl, hb4, hr4⟩; obtain ⟨⟨k0, k1, k2, k3, k4, k5, k6, k7, k8, k9, k10, k11, k12, k13⟩, ⟨l0, l1, l2, l3, l4, l5, l6, l7, l8, l9, l10, l11, l12, l13⟩, HD⟩ := HC.out _ _ _ _ _ _ _ _ _ _ _ _ hb1 hb2 hb3 hb4 HA1.out HA2.out; have HR4 := hid (And.intro (HR3.out.below hb4) hr4); clear hr4)
    | (go_at_call 20; (with_reducible refine (HSa.out _ _ _ _ _ _ _ _ _ HD.out.1 HD.out.2.1).mono ?_); rintro e w5 ⟨rfl, hb5⟩)
    | (go_at_call 22; (with_reducible refine (HSi.out _ _ _ (HR4.out.1.below hb5) (HR4.out.2.below hb5)).mono ?_); rintro e w6 ⟨rfl, hb6⟩))
  go_ret
  exact HPoss.out _ _ HD.out.2.2 hb5 _ hb6
end Go.Proofs.Ytppjojjejabaeaa
