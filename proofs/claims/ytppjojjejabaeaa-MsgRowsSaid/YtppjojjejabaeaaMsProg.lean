/-
  LAYER 7 (msg): WHAT THE LAWS ASK OF THE PROGRAM: its calls' contracts, all in one; and shown.
-/
import Derived.Test.YtppjojjejabaeaaMsUpB
import Derived.Test.YtppjojjejabaeaaMsLaw2
import Derived.Test.YtppjojjejabaeaaMsSmall
namespace Go.Proofs.Ytppjojjejabaeaa
open Go.RowKit
set_option linter.unusedVariables false
set_option maxRecDepth 100000

structure MsProg : Prop where
  right : ∀ {w : World} (m : Ms) (ev vv : Value), MsAt w m ev vv → MsIn m → Calls Try.prog 13 #[msV m ev vv] w (BoolPost' w (rightM m))
  pack : ∀ {w : World} (m : Ms) (ev vv : Value), MsAt w m ev vv → MsIn m → m.vot.length ≤ 1000000 → Calls Try.prog 11 #[msV m ev vv] w (PackPost w (packN m))
  unpack : ∀ (l : List UInt8) (w : World), l.length ≤ 10000000 → Calls Try.prog 19 #[.string (mk l)] w (UnPost w (unpackN l))
  voters : ∀ {w : World} {v : Value} {xs : List Int}, RAt numTy w v xs → (∀ x ∈ xs, i64b x) → xs.length ≤ 1000000 → Calls Try.prog 15 #[v] w (StrPost w (eV xs))
  toVoters : ∀ (l : List UInt8) (w : World), l.length ≤ maxLen → Calls Try.prog 21 #[.string (mk l)] w (TVPost w (dV l))

def mA : Ms := ⟨1, 1, 2, 3, 0, 0, 0, false, [], 0, 0, [], ⟨#[]⟩, ⟨#[]⟩⟩
theorem enc_small {v : Nat} (h : v < 128) : enc v = [UInt8.ofNat v] := by
  unfold enc
  rw [Nat.div_eq_of_lt h, Nat.mod_eq_of_lt h]
  unfold encC
  simp
theorem rightA : rightM mA = true := by decide
theorem rightZ : rightM zMs = false := by decide
theorem eA : eM mA = [2, 2, 4, 6, 0, 0, 0, 0, 0, 0, 0, 0, 0, 0] := by
  simp [eM, encs, heads, eI, eB, eEs, eV, txt, nat64, enc_small, mA]
theorem packA : packN mA = ([2, 2, 4, 6, 0, 0, 0, 0, 0, 0, 0, 0, 0, 0], 0) := by
  unfold packN
  rw [if_pos rightA, eA]
theorem packZ : packN zMs = ([], 1) := by
  unfold packN
  rw [rightZ]
  rfl
theorem unpackZ : unpackN [] = none := by
  cases h : unpackN [] with
  | none => rfl
  | some m =>
    have := ((unpackN_iff _ _).1 h).2
    have h2 := eM_pos m
    rw [← this] at h2
    simp at h2
theorem votersA : eV [1, 3] = [4, 2, 6] := by
  simp [eV, encs, eI, nat64, enc_small]
theorem msIn_of {m : Ms} (h : heads m = [1, 1, 2, 3, 0, 0, 0] ∨ heads m = [0, 0, 0, 0, 0, 0, 0]) (he : m.ents = []) (h1 : m.bi = 0) (h2 : m.bt = 0) (hv : m.vot = []) (h3 : m.bd = ⟨#[]⟩) (h4 : m.dt = ⟨#[]⟩) : MsIn m := by
  refine ⟨?_, by rw [he]; simp, by rw [he]; decide, by rw [h1]; exact ⟨by omega, by omega⟩, by rw [h2]; exact ⟨by omega, by omega⟩, by rw [hv]; simp, by rw [hv]; decide, by rw [h3]; decide, by rw [h4]; decide⟩
  rcases h with h | h <;> rw [h] <;> simp [I64']
theorem in_A : MsIn mA := msIn_of (.inl rfl) rfl rfl rfl rfl rfl rfl
theorem in_Z : MsIn zMs := msIn_of (.inr rfl) rfl rfl rfl rfl rfl rfl
theorem at_A (w : World) : MsAt w mA zV zV := ⟨(rOwn_nil w).rAt, (rOwn_nil w).rAt⟩
theorem at_Z (w : World) : MsAt w zMs zV zV := ⟨(rOwn_nil w).rAt, (rOwn_nil w).rAt⟩
theorem ten_zeros (w : World) (g : Nat) (hg : w.heap.size = g) : ∃ w2, (Instr.makeSlice 35 (.int .i64 10) (.int .i64 10)).run Try.prog w = .ok (.slice (some ⟨g, 0, none⟩) 10 10) w2 ∧ (convert 35 9 (.slice (some ⟨g, 0, none⟩) 10 10)).run Try.prog w2 = .ok (.string (mk (List.replicate 10 0))) w2 ∧ Below w.heap.size w w2 := by
  subst hg
  obtain ⟨w2, hrun, hby, hb2, hsz⟩ := make_bytes w w.heap.size 10 (Nat.le_refl _) (by omega)
  refine ⟨w2, hrun, ?_, hb2⟩
  obtain ⟨g', cap', hv', _, _, _, _, hcell, _⟩ := hby.shape (by simp)
  cases hv'
  exact run_string (w := w2) (by simp) hcell
def ShownPost (w : World) (e : Ending) (w' : World) : Prop := e = .returned (.bool true) ∧ Below w.heap.size w w'
set_option maxHeartbeats 8000000 in
theorem shown_any (HP : MsProg) (w : World) : Calls Try.prog 9 #[] w (ShownPost w) := by
  have H1 : Hid (∀ wx, Calls Try.prog 11 #[.agg #[.int .i64 1, .int .i64 1, .int .i64 2, .int .i64 3, .int .i64 0, .int .i64 0, .int .i64 0, .bool false, .slice none 0 0, .int .i64 0, .int .i64 0, .slice none 0 0, .string ⟨#[]⟩, .string ⟨#[]⟩]] wx fun e w' => e = .returned (.tuple #[.string (mk [2, 2, 4, 6, 0, 0, 0, 0, 0, 0, 0, 0, 0, 0]), .int .i64 0]) ∧ Below wx.heap.size wx w') := hid (fun wx => by have := HP.pack mA zV zV (at_A wx) in_A (by decide); rw [packA] at this; exact this)
  have H2 : Hid (∀ wx, Calls Try.prog 11 #[.agg #[.int .i64 0, .int .i64 0, .int .i64 0, .int .i64 0, .int .i64 0, .int .i64 0, .int .i64 0, .bool false, .slice none 0 0, .int .i64 0, .int .i64 0, .slice none 0 0, .string ⟨#[]⟩, .string ⟨#[]⟩]] wx fun e w' => e = .returned (.tuple #[.string ⟨#[]⟩, .int .i64 1]) ∧ Below wx.heap.size wx w') := hid (fun wx => by have := HP.pack zMs zV zV (at_Z wx) in_Z (by decide); rw [packZ] at this; exact this)
  have H3 : Hid (∀ wx, Calls Try.prog 19 #[.string ⟨#[]⟩] wx fun e w' => e = .returned (.tuple #[.agg #[.int .i64 0, .int .i64 0, .int .i64 0, .int .i64 0, .int .i64 0, .int .i64 0, .int .i64 0, .bool false, .slice none 0 0, .int .i64 0, .int .i64 0, .slice none 0 0, .string ⟨#[]⟩, .string ⟨#[]⟩], .int .i64 8]) ∧ Below wx.heap.size wx w') := hid (fun wx => (by have := HP.unpack [] wx (by decide); rw [unpackZ] at this; exact this.mono fun e w' h => ⟨h.2, h.1⟩))
  have H4 : Hid (∀ wx, Calls Try.prog 15 #[.slice (some ⟨wx.heap.size, 0, none⟩) 2 2] (wx.alloc (.cells #[.int .i64 1, .int .i64 3] 3)) fun e w' => e = .returned (.string ⟨#[4, 2, 6]⟩) ∧ Below wx.heap.size wx w') := hid (fun wx => (by
    have := HP.voters (w := wx.alloc (.cells #[.int .i64 1, .int .i64 3] 3)) (nums_lit wx [1, 3] 3 2 rfl (by decide)) (by simp [i64b]) (by decide)
    rw [votersA] at this
    exact this.mono fun e w' h => ⟨h.1, ((Below.refl _ wx).alloc (Nat.le_refl _) _).trans (h.2.mono (by simp))⟩))
  clear HP
  go_enter Try.func9, Try.ntmps9
  go_wp2_with (first
    | (go_at_call 11; (with_reducible refine (H1.out _).mono ?_); rintro e w1 ⟨rfl, hb1⟩)
    | (go_at_call 11; (with_reducible refine (H2.out _).mono ?_); rintro e w2 ⟨rfl, hb2⟩)
    | (go_at_call 19; (with_reducible refine (H3.out _).mono ?_); rintro e w3 ⟨rfl, hb3⟩))
  obtain ⟨w4, hrun, hconv, hb4⟩ := ten_zeros (w3.alloc (.cells #[.int .i64 0, .int .i64 0, .int .i64 0, .int .i64 0, .int .i64 0, .int .i64 0, .int .i64 0, .bool false, .slice none 0 0, .int .i64 0, .int .i64 0, .slice none 0 0, .string ⟨#[]⟩, .string ⟨#[]⟩] 27)) (w3.heap.size + 1) (by simp)
  have hb5 : Below w.heap.size w w4 := by
    have a1 := hb1.trans (hb2.mono hb1.size)
    have a2 := a1.trans (hb3.mono a1.size)
    have a3 := a2.alloc (by have := a2.size; omega) (.cells #[.int .i64 0, .int .i64 0, .int .i64 0, .int .i64 0, .int .i64 0, .int .i64 0, .int .i64 0, .bool false, .slice none 0 0, .int .i64 0, .int .i64 0, .slice none 0 0, .string ⟨#[]⟩, .string ⟨#[]⟩] 27)
    exact a3.trans (hb4.mono a3.size)
  rw [hrun]
  simp only [Result.andThen]
  rw [Oper.upon_value]
  clear hb1 hb2 hb3 hb4 hrun
  have HB := hid hb5
  clear hb5
  have qs : ((mk [2, 2, 4, 6, 0, 0, 0, 0, 0, 0, 0, 0, 0, 0]).toList == ((⟨#[2, 2, 4, 6]⟩ : ByteArray) ++ mk (List.replicate 10 0)).toList) = true := by rw [Lib.toList_data, Lib.toList_data, append_data]; rfl
  go_wp2_with (go_at_call 15; (with_reducible refine (H4.out _).mono ?_); rintro e w5 ⟨rfl, hb6⟩; have HBB := hid (HB.out.trans (hb6.mono HB.out.size)); clear hb6)
  go_ret
  exact ⟨rfl, HBB.out⟩
end Go.Proofs.Ytppjojjejabaeaa
