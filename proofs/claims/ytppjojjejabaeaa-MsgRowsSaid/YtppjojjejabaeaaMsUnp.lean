/-
  LAYER 7 (msg), THE PROGRAM: Unpack.
-/
import Derived.Test.YtppjojjejabaeaaMsToP
import Derived.Test.YtppjojjejabaeaaMsPrE
namespace Go.Proofs.Ytppjojjejabaeaa
open Go.RowKit
set_option linter.unusedVariables false
set_option maxRecDepth 100000

theorem dE_in {l : List UInt8} {e : Me} {r : List UInt8} (h : dE l = some (e, r)) (hl : l.length ≤ 10000000) : MeIn e := by
  unfold dE at h
  cases h1 : dNs 3 l with
  | none => rw [h1] at h; cases h
  | some p =>
    obtain ⟨ns, r1⟩ := p
    rw [h1] at h
    simp only at h
    cases h2 : dT r1 with
    | none => rw [h2] at h; cases h
    | some q =>
      obtain ⟨t, r2⟩ := q
      rw [h2] at h
      simp only [Option.some.injEq, Prod.mk.injEq] at h
      obtain ⟨rfl, rfl⟩ := h
      have h4 := dNs_shorter h1
      obtain ⟨h3, h5, _⟩ := dNs_sound _ _ _ _ h1
      have h6 := dT_short h2
      match ns, h3, h5 with
      | [a, b, c], _, h5 =>
        exact ⟨h5 a (by simp), h5 b (by simp), h5 c (by simp), by show t.size ≤ maxLen; unfold maxLen; omega⟩
theorem dEs_in : ∀ (n : Nat) (l : List UInt8) (es : List Me) (r : List UInt8), dEs n l = some (es, r) → l.length ≤ 10000000 → (∀ e ∈ es, MeIn e) ∧ r.length ≤ l.length
  | 0, l, es, r, h, hl => by
    simp only [dEs, Option.some.injEq, Prod.mk.injEq] at h
    obtain ⟨rfl, rfl⟩ := h
    exact ⟨fun e he => by simp at he, Nat.le_refl _⟩
  | n + 1, l, es, r, h, hl => by
    rw [dEs] at h
    cases h1 : dE l with
    | none => rw [h1] at h; cases h
    | some p =>
      obtain ⟨v, r1⟩ := p
      rw [h1] at h
      simp only at h
      cases h2 : dEs n r1 with
      | none => rw [h2] at h; cases h
      | some q =>
        obtain ⟨vs, r2⟩ := q
        rw [h2] at h
        simp only [Option.some.injEq, Prod.mk.injEq] at h
        obtain ⟨rfl, rfl⟩ := h
        have h3 := dE_shorter h1
        obtain ⟨h4, h5⟩ := dEs_in n r1 vs r2 h2 (by omega)
        refine ⟨fun e he => ?_, by omega⟩
        rcases List.mem_cons.1 he with rfl | he
        · exact dE_in h1 hl
        · exact h4 e he
theorem dM_in {l : List UInt8} {m : Ms} {r : List UInt8} (h : dM l = some (m, r)) (hl : l.length ≤ 10000000) : MsIn m := by
  unfold dM at h
  simp only [Option.bind_eq_some_iff] at h
  obtain ⟨⟨a1, a2⟩, ha, ⟨b1, b2⟩, hb, ⟨c1, c2⟩, hc, h⟩ := h
  split at h
  · cases h
  · rename_i hn
    simp only [Option.bind_eq_some_iff] at h
    obtain ⟨⟨d1, d2⟩, hd, ⟨e1, e2⟩, he, ⟨f1, f2⟩, hf, ⟨g1, g2⟩, hg, ⟨k1, k2⟩, hk, h⟩ := h
    simp only [Option.some.injEq, Prod.mk.injEq] at h
    obtain ⟨rfl, rfl⟩ := h
    have q1 := dNs_shorter ha
    have q2 := dB_shorter hb
    have q3 := dI_shorter hc
    simp only at q1 q2 q3 hd he hf hg hk hn
    obtain ⟨q4, q5⟩ := dEs_in _ _ _ _ hd (by omega)
    have q6 := dNs_shorter he
    obtain ⟨v1, v2, v3⟩ := dV_sound hf
    have q7 : f2.length ≤ e2.length := by rw [v3, List.length_append]; omega
    have q8 := dT_short hg
    have q9 := dT_short hk
    obtain ⟨ha1, ha2, _⟩ := dNs_sound _ _ _ _ ha
    obtain ⟨he1, he2, _⟩ := dNs_sound _ _ _ _ he
    obtain ⟨hd1, _⟩ := dEs_sound _ _ _ _ hd
    match a1, ha1, ha2, e1, he1, he2 with
    | [x0, x1, x2, x3, x4, x5, x6], _, ha2, [y0, y1], _, he2 =>
      refine ⟨ha2, q4, ?_, he2 y0 (by simp), he2 y1 (by simp), v1, ?_, ?_, ?_⟩
      · show d1.length ≤ maxLen
        unfold maxLen
        omega
      · show f1.length ≤ maxLen
        unfold maxLen
        omega
      · show g1.size ≤ maxLen
        unfold maxLen
        omega
      · show k1.size ≤ maxLen
        unfold maxLen
        omega
theorem unp_box {w w0 w3 : World} (hw0 : w.alloc (.cells #[.int .i64 0, .int .i64 0, .int .i64 0, .int .i64 0, .int .i64 0, .int .i64 0, .int .i64 0, .bool false, .slice none 0 0, .int .i64 0, .int .i64 0, .slice none 0 0, .string ⟨#[]⟩, .string ⟨#[]⟩] 27) = w0) (h : Below w0.heap.size w0 w3) (u0 u1 u2 u3 u4 u5 u6 u7 u8 u9 u10 u11 u12 u13 : Value) :
    Box14 w3 w.heap.size (.int .i64 0) (.int .i64 0) (.int .i64 0) (.int .i64 0) (.int .i64 0) (.int .i64 0) (.int .i64 0) (.bool false) (.slice none 0 0) (.int .i64 0) (.int .i64 0) (.slice none 0 0) (.string ⟨#[]⟩) (.string ⟨#[]⟩) u0 u1 u2 u3 u4 u5 u6 u7 u8 u9 u10 u11 u12 u13 ∧ Hid (Below w.heap.size w (st14 w3 w.heap.size u0 u1 u2 u3 u4 u5 u6 u7 u8 u9 u10 u11 u12 u13)) := by
  subst hw0
  have ho := (own.new w #[.int .i64 0, .int .i64 0, .int .i64 0, .int .i64 0, .int .i64 0, .int .i64 0, .int .i64 0, .bool false, .slice none 0 0, .int .i64 0, .int .i64 0, .slice none 0 0, .string ⟨#[]⟩, .string ⟨#[]⟩] 27).same (h.block _ (by simp))
  have hbl : Below w.heap.size w w3 := ((Below.refl _ w).alloc (Nat.le_refl _) _).trans (h.mono (by simp))
  exact ⟨box14_of ho _ _ _ _ _ _ _ _ _ _ _ _ _ _, hid ((((((((((((((hbl.setCell (Nat.le_refl _) _).setCell (Nat.le_refl _) _).setCell (Nat.le_refl _) _).setCell (Nat.le_refl _) _).setCell (Nat.le_refl _) _).setCell (Nat.le_refl _) _).setCell (Nat.le_refl _) _).setCell (Nat.le_refl _) _).setCell (Nat.le_refl _) _).setCell (Nat.le_refl _) _).setCell (Nat.le_refl _) _).setCell (Nat.le_refl _) _).setCell (Nat.le_refl _) _).setCell (Nat.le_refl _) _)⟩
set_option maxHeartbeats 16000000 in
theorem unpack_none (l : List UInt8) (w : World) (hl : l.length ≤ 10000000) (hq : dM l = none) : Calls Try.prog 19 #[.string (mk l)] w (UnPost w none) := by
  obtain ⟨w0, hw0⟩ : ∃ w0, w.alloc (.cells #[.int .i64 0, .int .i64 0, .int .i64 0, .int .i64 0, .int .i64 0, .int .i64 0, .int .i64 0, .bool false, .slice none 0 0, .int .i64 0, .int .i64 0, .slice none 0 0, .string ⟨#[]⟩, .string ⟨#[]⟩] 27) = w0 := ⟨_, rfl⟩
  have hT := toMsg_any l w0 hl
  rw [hq] at hT
  have HT := hid hT
  have HB := hid (fun w3 h => unp_box (w3 := w3) hw0 h (.int .i64 0) (.int .i64 0) (.int .i64 0) (.int .i64 0) (.int .i64 0) (.int .i64 0) (.int .i64 0) (.bool false) (.slice none 0 0) (.int .i64 0) (.int .i64 0) (.slice none 0 0) (.string ⟨#[]⟩) (.string ⟨#[]⟩))
  clear hT hq
  subst hw0
  go_enter Try.func19, Try.ntmps19
  go_wp2_with (go_at_call 41; (with_reducible refine HT.out.mono ?_); rintro e w1 ⟨hb, m, a, n, c, a', n', c', s, rfl, -⟩; unfold msV; obtain ⟨⟨k0, k1, k2, k3, k4, k5, k6, k7, k8, k9, k10, k11, k12, k13, f0, f1, f2, f3, f4, f5, f6, f7, f8, f9, f10, f11, f12, f13, e0, e1, e2, e3, e4, e5, e6, e7, e8, e9, e10, e11, e12, e13⟩, HF⟩ := HB.out (w1.alloc (.cells #[.int .i64 m.kind, .int .i64 m.fr, .int .i64 m.to_, .int .i64 m.term, .int .i64 m.index, .int .i64 m.logTerm, .int .i64 m.commit, .bool m.ok, .slice a n c, .int .i64 m.bi, .int .i64 m.bt, .slice a' n' c', .string m.bd, .string m.dt] 27)) (hb.alloc (hb.size) _); clear hb)
  exact bodyPost_ret (v := .tuple #[msV zMs zV zV, .int .i64 8]) (by simp [results, Try.results19, go_sem, e0, e1, e2, e3, e4, e5, e6, e7, e8, e9, e10, e11, e12, e13, msV, zMs]) rfl ⟨HF.out, rfl⟩
set_option maxHeartbeats 16000000 in
theorem unpack_more (l : List UInt8) (w : World) (hl : l.length ≤ 10000000) (p : Ms) (r : List UInt8) (hr : (mk r).toList.isEmpty = false) (hq : dM l = some (p, r)) : Calls Try.prog 19 #[.string (mk l)] w (UnPost w none) := by
  obtain ⟨w0, hw0⟩ : ∃ w0, w.alloc (.cells #[.int .i64 0, .int .i64 0, .int .i64 0, .int .i64 0, .int .i64 0, .int .i64 0, .int .i64 0, .bool false, .slice none 0 0, .int .i64 0, .int .i64 0, .slice none 0 0, .string ⟨#[]⟩, .string ⟨#[]⟩] 27) = w0 := ⟨_, rfl⟩
  have hT := toMsg_any l w0 hl
  rw [hq] at hT
  have HT := hid hT
  have HB := hid (fun w3 h => unp_box (w3 := w3) hw0 h (.int .i64 0) (.int .i64 0) (.int .i64 0) (.int .i64 0) (.int .i64 0) (.int .i64 0) (.int .i64 0) (.bool false) (.slice none 0 0) (.int .i64 0) (.int .i64 0) (.slice none 0 0) (.string ⟨#[]⟩) (.string ⟨#[]⟩))
  clear hT hq
  subst hw0
  go_enter Try.func19, Try.ntmps19
  go_wp2_with (go_at_call 41; (with_reducible refine HT.out.mono ?_); rintro e w1 ⟨hb, m, a, n, c, a', n', c', s, rfl, heq⟩; obtain ⟨rfl, -⟩ := heq _ rfl; unfold msV; obtain ⟨⟨k0, k1, k2, k3, k4, k5, k6, k7, k8, k9, k10, k11, k12, k13, f0, f1, f2, f3, f4, f5, f6, f7, f8, f9, f10, f11, f12, f13, e0, e1, e2, e3, e4, e5, e6, e7, e8, e9, e10, e11, e12, e13⟩, HF⟩ := HB.out (w1.alloc (.cells #[.int .i64 m.kind, .int .i64 m.fr, .int .i64 m.to_, .int .i64 m.term, .int .i64 m.index, .int .i64 m.logTerm, .int .i64 m.commit, .bool m.ok, .slice a n c, .int .i64 m.bi, .int .i64 m.bt, .slice a' n' c', .string m.bd, .string m.dt] 27)) (hb.alloc (hb.size) _); clear hb heq)
  exact bodyPost_ret (v := .tuple #[msV zMs zV zV, .int .i64 8]) (by simp [results, Try.results19, go_sem, e0, e1, e2, e3, e4, e5, e6, e7, e8, e9, e10, e11, e12, e13, msV, zMs]) rfl ⟨HF.out, rfl⟩
/-- What toMsg leaves of a whole message. -/
def TW (w : World) (p : Ms) (e : Ending) (w' : World) : Prop := ∃ a c a' c', e = .returned (.tuple #[msV p (.slice a p.ents.length c) (.slice a' p.vot.length c'), .string ⟨#[]⟩, .bool true]) ∧ Below w.heap.size w w' ∧ ROwn enTy w' (.slice a p.ents.length c) p.ents ∧ ROwn numTy w' (.slice a' p.vot.length c') p.vot ∧ (∀ b, (Value.slice a p.ents.length c).ownBlock = some b → w.heap.size < b) ∧ (∀ b, (Value.slice a' p.vot.length c').ownBlock = some b → w.heap.size < b)
theorem toMsg_whole (l : List UInt8) (w : World) (hl : l.length ≤ 10000000) (p : Ms) (hq : dM l = some (p, [])) : Calls Try.prog 41 #[.string (mk l)] w (TW w p) := by
  have hT := toMsg_any l w hl
  rw [hq] at hT
  refine hT.mono fun e w' h => ?_
  obtain ⟨hb, m, a, n, c, a', n', c', s, rfl, heq⟩ := h
  obtain ⟨rfl, hv, rfl, rfl, h1, h2, h3, h4⟩ := heq _ rfl
  exact ⟨a, c, a', c', by rw [hv]; rfl, hb, h1, h2, h3, h4⟩
/-- The facts behind toMsg: Right's contract at the box, and behind it the boxes. -/
structure UnAft (w w0 w1 : World) (p : Ms) (a : Option Addr) (n c : Nat) (a' : Option Addr) (n' c' : Nat) (b : Bool) : Prop where
  right : Calls Try.prog 13 #[.agg #[.int .i64 p.kind, .int .i64 p.fr, .int .i64 p.to_, .int .i64 p.term, .int .i64 p.index, .int .i64 p.logTerm, .int .i64 p.commit, .bool p.ok, .slice a n c, .int .i64 p.bi, .int .i64 p.bt, .slice a' n' c', .string p.bd, .string p.dt]] (w1.alloc (.cells #[.int .i64 p.kind, .int .i64 p.fr, .int .i64 p.to_, .int .i64 p.term, .int .i64 p.index, .int .i64 p.logTerm, .int .i64 p.commit, .bool p.ok, .slice a n c, .int .i64 p.bi, .int .i64 p.bt, .slice a' n' c', .string p.bd, .string p.dt] 27)) (BoolPost' (w1.alloc (.cells #[.int .i64 p.kind, .int .i64 p.fr, .int .i64 p.to_, .int .i64 p.term, .int .i64 p.index, .int .i64 p.logTerm, .int .i64 p.commit, .bool p.ok, .slice a n c, .int .i64 p.bi, .int .i64 p.bt, .slice a' n' c', .string p.bd, .string p.dt] 27)) b)
  box : ∀ w3, Below (w1.alloc (.cells #[.int .i64 p.kind, .int .i64 p.fr, .int .i64 p.to_, .int .i64 p.term, .int .i64 p.index, .int .i64 p.logTerm, .int .i64 p.commit, .bool p.ok, .slice a n c, .int .i64 p.bi, .int .i64 p.bt, .slice a' n' c', .string p.bd, .string p.dt] 27)).heap.size (w1.alloc (.cells #[.int .i64 p.kind, .int .i64 p.fr, .int .i64 p.to_, .int .i64 p.term, .int .i64 p.index, .int .i64 p.logTerm, .int .i64 p.commit, .bool p.ok, .slice a n c, .int .i64 p.bi, .int .i64 p.bt, .slice a' n' c', .string p.bd, .string p.dt] 27)) w3 → Below w0.heap.size w0 w3 ∧ own w3 w1.heap.size #[.int .i64 p.kind, .int .i64 p.fr, .int .i64 p.to_, .int .i64 p.term, .int .i64 p.index, .int .i64 p.logTerm, .int .i64 p.commit, .bool p.ok, .slice a n c, .int .i64 p.bi, .int .i64 p.bt, .slice a' n' c', .string p.bd, .string p.dt] 27 ∧ MsAt (st14 w3 w.heap.size (.int .i64 p.kind) (.int .i64 p.fr) (.int .i64 p.to_) (.int .i64 p.term) (.int .i64 p.index) (.int .i64 p.logTerm) (.int .i64 p.commit) (.bool p.ok) (.slice a n c) (.int .i64 p.bi) (.int .i64 p.bt) (.slice a' n' c') (.string p.bd) (.string p.dt)) p (.slice a n c) (.slice a' n' c')
theorem un_aft {w w0 w1 : World} {p : Ms} {a : Option Addr} {c : Nat} {a' : Option Addr} {c' : Nat} (hw0 : w.alloc (.cells #[.int .i64 0, .int .i64 0, .int .i64 0, .int .i64 0, .int .i64 0, .int .i64 0, .int .i64 0, .bool false, .slice none 0 0, .int .i64 0, .int .i64 0, .slice none 0 0, .string ⟨#[]⟩, .string ⟨#[]⟩] 27) = w0) (hi : MsIn p) (hb : Below w0.heap.size w0 w1) (h1 : ROwn enTy w1 (.slice a p.ents.length c) p.ents) (h2 : ROwn numTy w1 (.slice a' p.vot.length c') p.vot) (h3 : ∀ b, (Value.slice a p.ents.length c).ownBlock = some b → w0.heap.size < b) (h4 : ∀ b, (Value.slice a' p.vot.length c').ownBlock = some b → w0.heap.size < b) :
    UnAft w w0 w1 p a p.ents.length c a' p.vot.length c' (rightM p) := by
  have z0 : w0.heap.size = w.heap.size + 1 := by rw [← hw0]; simp
  constructor
  · have hat : MsAt (w1.alloc (.cells #[.int .i64 p.kind, .int .i64 p.fr, .int .i64 p.to_, .int .i64 p.term, .int .i64 p.index, .int .i64 p.logTerm, .int .i64 p.commit, .bool p.ok, .slice a p.ents.length c, .int .i64 p.bi, .int .i64 p.bt, .slice a' p.vot.length c', .string p.bd, .string p.dt] 27)) p (.slice a p.ents.length c) (.slice a' p.vot.length c') := MsAt.below ⟨h1.rAt, h2.rAt⟩ ((Below.refl _ _).alloc (Nat.le_refl _) _)
    exact right_any p _ _ hat hi
  · intro w3 h
    have hb1 : Below w1.heap.size w1 w3 := ((Below.refl _ _).alloc (Nat.le_refl _) _).trans (h.mono (by simp))
    refine ⟨hb.trans (hb1.mono hb.size), own.same (own.new w1 _ _) (h.block _ (by simp)), ?_⟩
    have hat : MsAt w3 p (.slice a p.ents.length c) (.slice a' p.vot.length c') := MsAt.below ⟨h1.rAt, h2.rAt⟩ hb1
    refine ⟨ROwn.rAt ((h1.same (fun b e => hb1.block b (h1.lt b e))).same (fun b e => same14 w3 _ b (by have := h3 b e; omega) _ _ _ _ _ _ _ _ _ _ _ _ _ _)), ROwn.rAt ((h2.same (fun b e => hb1.block b (h2.lt b e))).same (fun b e => same14 w3 _ b (by have := h4 b e; omega) _ _ _ _ _ _ _ _ _ _ _ _ _ _))⟩
set_option maxHeartbeats 16000000 in
theorem unpack_false (l : List UInt8) (w : World) (hl : l.length ≤ 10000000) (p : Ms) (hq : dM l = some (p, [])) (hr : rightM p = false) : Calls Try.prog 19 #[.string (mk l)] w (UnPost w none) := by
  obtain ⟨w0, hw0⟩ : ∃ w0, w.alloc (.cells #[.int .i64 0, .int .i64 0, .int .i64 0, .int .i64 0, .int .i64 0, .int .i64 0, .int .i64 0, .bool false, .slice none 0 0, .int .i64 0, .int .i64 0, .slice none 0 0, .string ⟨#[]⟩, .string ⟨#[]⟩] 27) = w0 := ⟨_, rfl⟩
  have HT := hid (toMsg_whole l w0 hl p hq)
  have hi := dM_in hq hl
  have HA := hid (fun w1 a c a' c' hb h1 h2 h3 h4 => un_aft (w1 := w1) (a := a) (c := c) (a' := a') (c' := c') hw0 hi hb h1 h2 h3 h4)
  rw [hr] at HA
  have HB := hid (fun w3 h => unp_box (w3 := w3) hw0 h (.int .i64 0) (.int .i64 0) (.int .i64 0) (.int .i64 0) (.int .i64 0) (.int .i64 0) (.int .i64 0) (.bool false) (.slice none 0 0) (.int .i64 0) (.int .i64 0) (.slice none 0 0) (.string ⟨#[]⟩) (.string ⟨#[]⟩))
  have HB2 := hid (fun w3 a n c a' n' c' h => unp_box (w3 := w3) hw0 h (.int .i64 p.kind) (.int .i64 p.fr) (.int .i64 p.to_) (.int .i64 p.term) (.int .i64 p.index) (.int .i64 p.logTerm) (.int .i64 p.commit) (.bool p.ok) (.slice a n c) (.int .i64 p.bi) (.int .i64 p.bt) (.slice a' n' c') (.string p.bd) (.string p.dt))
  obtain ⟨ne, hne⟩ : ∃ ne, p.ents.length = ne := ⟨_, rfl⟩
  obtain ⟨nv, hnv⟩ : ∃ nv, p.vot.length = nv := ⟨_, rfl⟩
  have es : (⟨#[]⟩ : ByteArray).toList.isEmpty = true := by rw [Lib.toList_data]; rfl
  clear hi hq hr
  unfold TW msV at HT
  rw [hne, hnv] at HA HT
  clear hne hnv
  subst hw0
  go_enter Try.func19, Try.ntmps19
  go_wp2_with (first
    | (go_at_call 41; (with_reducible refine HT.out.mono ?_); rintro e w1 ⟨a, c, a', c', rfl, hb, h1, h2, h3, h4⟩; have HF := hid (HA.out w1 a c a' c' hb h1 h2 h3 h4); have HR := hid HF.out.right; clear hb h1 h2 h3 h4)
    | (go_at_call 13; (with_reducible refine HR.out.mono ?_); rintro e w3 ⟨rfl, hb3⟩; obtain ⟨hb4, ho, hat⟩ := HF.out.box w3 hb3; obtain ⟨⟨k0, k1, k2, k3, k4, k5, k6, k7, k8, k9, k10, k11, k12, k13, f0, f1, f2, f3, f4, f5, f6, f7, f8, f9, f10, f11, f12, f13, e0, e1, e2, e3, e4, e5, e6, e7, e8, e9, e10, e11, e12, e13⟩, HG⟩ := HB.out _ hb4; clear hb3 hb4 ho hat))
  exact bodyPost_ret (v := .tuple #[msV zMs zV zV, .int .i64 8]) (by simp [results, Try.results19, go_sem, e0, e1, e2, e3, e4, e5, e6, e7, e8, e9, e10, e11, e12, e13, msV, zMs]) rfl ⟨HG.out, rfl⟩
set_option maxHeartbeats 16000000 in
theorem unpack_true (l : List UInt8) (w : World) (hl : l.length ≤ 10000000) (p : Ms) (hq : dM l = some (p, [])) (hr : rightM p = true) : Calls Try.prog 19 #[.string (mk l)] w (UnPost w (some p)) := by
  obtain ⟨w0, hw0⟩ : ∃ w0, w.alloc (.cells #[.int .i64 0, .int .i64 0, .int .i64 0, .int .i64 0, .int .i64 0, .int .i64 0, .int .i64 0, .bool false, .slice none 0 0, .int .i64 0, .int .i64 0, .slice none 0 0, .string ⟨#[]⟩, .string ⟨#[]⟩] 27) = w0 := ⟨_, rfl⟩
  have HT := hid (toMsg_whole l w0 hl p hq)
  have hi := dM_in hq hl
  have HA := hid (fun w1 a c a' c' hb h1 h2 h3 h4 => un_aft (w1 := w1) (a := a) (c := c) (a' := a') (c' := c') hw0 hi hb h1 h2 h3 h4)
  rw [hr] at HA
  have HB := hid (fun w3 h => unp_box (w3 := w3) hw0 h (.int .i64 0) (.int .i64 0) (.int .i64 0) (.int .i64 0) (.int .i64 0) (.int .i64 0) (.int .i64 0) (.bool false) (.slice none 0 0) (.int .i64 0) (.int .i64 0) (.slice none 0 0) (.string ⟨#[]⟩) (.string ⟨#[]⟩))
  have HB2 := hid (fun w3 a n c a' n' c' h => unp_box (w3 := w3) hw0 h (.int .i64 p.kind) (.int .i64 p.fr) (.int .i64 p.to_) (.int .i64 p.term) (.int .i64 p.index) (.int .i64 p.logTerm) (.int .i64 p.commit) (.bool p.ok) (.slice a n c) (.int .i64 p.bi) (.int .i64 p.bt) (.slice a' n' c') (.string p.bd) (.string p.dt))
  obtain ⟨ne, hne⟩ : ∃ ne, p.ents.length = ne := ⟨_, rfl⟩
  obtain ⟨nv, hnv⟩ : ∃ nv, p.vot.length = nv := ⟨_, rfl⟩
  have es : (⟨#[]⟩ : ByteArray).toList.isEmpty = true := by rw [Lib.toList_data]; rfl
  clear hi hq hr
  unfold TW msV at HT
  rw [hne, hnv] at HA HT
  clear hne hnv
  subst hw0
  go_enter Try.func19, Try.ntmps19
  go_wp2_with (first
    | (go_at_call 41; (with_reducible refine HT.out.mono ?_); rintro e w1 ⟨a, c, a', c', rfl, hb, h1, h2, h3, h4⟩; have HF := hid (HA.out w1 a c a' c' hb h1 h2 h3 h4); have HR := hid HF.out.right; clear hb h1 h2 h3 h4)
    | (go_at_call 13; (with_reducible refine HR.out.mono ?_); rintro e w3 ⟨rfl, hb3⟩; obtain ⟨hb4, ho, hat⟩ := HF.out.box w3 hb3; have HM := hid hat; obtain ⟨⟨k0, k1, k2, k3, k4, k5, k6, k7, k8, k9, k10, k11, k12, k13, f0, f1, f2, f3, f4, f5, f6, f7, f8, f9, f10, f11, f12, f13, e0, e1, e2, e3, e4, e5, e6, e7, e8, e9, e10, e11, e12, e13⟩, HG⟩ := HB2.out _ a ne c a' nv c' hb4; have m0 := (ho.cell 0).trans rfl; have m1 := (ho.cell 1).trans rfl; have m2 := (ho.cell 2).trans rfl; have m3 := (ho.cell 3).trans rfl; have m4 := (ho.cell 4).trans rfl; have m5 := (ho.cell 5).trans rfl; have m6 := (ho.cell 6).trans rfl; have m7 := (ho.cell 7).trans rfl; have m8 := (ho.cell 8).trans rfl; have m9 := (ho.cell 9).trans rfl; have m10 := (ho.cell 10).trans rfl; have m11 := (ho.cell 11).trans rfl; have m12 := (ho.cell 12).trans rfl; have m13 := (ho.cell 13).trans rfl; clear hb3 hb4 ho hat))
  exact bodyPost_ret (v := .tuple #[msV p (.slice a ne c) (.slice a' nv c'), .int .i64 0]) (by simp [results, Try.results19, go_sem, e0, e1, e2, e3, e4, e5, e6, e7, e8, e9, e10, e11, e12, e13, msV]) rfl ⟨HG.out, _, _, rfl, HM.out⟩
theorem mk_empty {r : List UInt8} (h : (mk r).toList.isEmpty = true) : r = [] := by
  rw [Lib.toList_data] at h
  exact List.isEmpty_iff.1 h
theorem unpack_any (l : List UInt8) (w : World) (hl : l.length ≤ 10000000) : Calls Try.prog 19 #[.string (mk l)] w (UnPost w (unpackN l)) := by
  cases hq : dM l with
  | none =>
    have h := unpack_none l w hl hq
    unfold unpackN
    rw [hq]
    exact h
  | some p =>
    obtain ⟨m, r⟩ := p
    cases hr : (mk r).toList.isEmpty with
    | false =>
      have h := unpack_more l w hl m r hr hq
      unfold unpackN
      rw [hq]
      cases r with
      | nil =>
        have h0 : (mk []).toList.isEmpty = true := by rw [Lib.toList_data]; rfl
        rw [h0] at hr
        cases hr
      | cons x xs => exact h
    | true =>
      obtain rfl := mk_empty hr
      unfold unpackN
      rw [hq]
      cases hm : rightM m with
      | false => simp only [hm]; exact unpack_false l w hl m hq hm
      | true => simp only [hm]; exact unpack_true l w hl m hq hm
end Go.Proofs.Ytppjojjejabaeaa
