/-
  LAYER 11 (xml), THE PROGRAM: strconv.ParseUint's outer call; numbered; reference.
-/
import Derived.Test.YtbiiaepmemdlgaaDoorXmPu
namespace Go.Proofs.YtbiiaepmemdlgaaDoor
open Go.RowKit
set_option linter.unusedVariables false
set_option maxRecDepth 100000

theorem toErr_any {B : Nat} {w : World} (hG : Gb B w) (s : ByteArray) (b : Int) (hs : s.size ≤ 1000) :
    Calls Tryd.prog 81 #[.string ⟨#[80, 97, 114, 115, 101, 85, 105, 110, 116]⟩, .string s, .int .i64 b, .int .i64 32, .iface 111 (.int .i64 2)] w fun e w' => (∃ N, e = .returned (.iface 113 (.pointer (some ⟨N, 0, none⟩)))) ∧ Below w.heap.size w w' := by
  obtain ⟨ev, h1, h2⟩ := hG.syn
  exact (AnyPu.strconv_toError_syntax Tryd.xToErr _ s b 32 ev w (by omega) h1 h2).mono fun e w' ⟨N, he, _, _, hb⟩ => ⟨⟨N, he⟩, hb⟩
theorem digs_lt (b m : Nat) (hb : 0 < b) : ∀ (l : List UInt8) (v u : Nat), l.foldl (digitX b) (some v) = some u → u < (v + 1) * b ^ l.length
  | [], v, u, h => by simp at h; subst h; simp
  | c :: r, v, u, h => by
    rw [List.foldl_cons] at h
    cases hd : digitX b (some v) c with
    | none => rw [hd, digit_none] at h; cases h
    | some x =>
      rw [hd] at h
      have hx : x < b * (v + 1) := by
        simp only [digitX, Option.bind_some] at hd
        obtain ⟨d, _, h2⟩ := Option.bind_eq_some_iff.1 hd
        split at h2
        · rename_i hdb
          cases h2
          rw [Nat.mul_add]; omega
        · cases h2
      have := digs_lt b m hb r x u h
      rw [List.length_cons, Nat.pow_succ]
      have h3 : (x + 1) * b ^ r.length ≤ (b * (v + 1)) * b ^ r.length := Nat.mul_le_mul_right _ hx
      have h4 : b * (v + 1) * b ^ r.length = (v + 1) * (b ^ r.length * b) := by
        rw [Nat.mul_comm b (v + 1), Nat.mul_assoc, Nat.mul_comm b]
      omega
/-- What ParseUint answers: the number, or some error. -/
def PubPost (w : World) (o : Option Nat) (e : Ending) (w' : World) : Prop :=
  (∀ v, o = some v → e = .returned (.tuple #[.int .u64 (v : Nat), .nilIface])) ∧ (o = none → ∃ N, e = .returned (.tuple #[.int .u64 0, .iface 113 (.pointer (some ⟨N, 0, none⟩))])) ∧ Below w.heap.size w w'
theorem pub_any {B : Nat} {w : World} (hG : Gb B w) (hB : B ≤ w.heap.size) (s : ByteArray) (b : Nat) (hb : (b = 10 ∧ s.size ≤ 7) ∨ (b = 16 ∧ s.size ≤ 6)) :
    Calls Tryd.prog 70 #[.string s, .int .i64 (b : Nat), .int .i64 32] w (PubPost w (digsX b s.data.toList)) := by
  have HP : Hid (Calls Tryd.prog 80 #[.string s, .int .i64 (b : Nat), .int .i64 32] w (PuPost w (digsX b s.data.toList))) := hid (by
    rcases hb with ⟨rfl, h⟩ | ⟨rfl, h⟩
    · exact pu10_any s w h
    · exact pu16_any s w h)
  have HE := hid (fun w1 (h : Below w.heap.size w w1) => toErr_any (hG.below (h.mono hB)) s b (by omega))
  clear hb hG
  cases ho : digsX b s.data.toList with
  | some v =>
    rw [ho] at HP
    have HP2 : Hid (Calls Tryd.prog 80 #[.string s, .int .i64 (b : Nat), .int .i64 32] w fun e w' => e = .returned (.tuple #[.int .u64 (v : Nat), .nilIface]) ∧ Below w.heap.size w w') := hid HP.out
    clear ho HP
    go_enter Tryd.func70, Tryd.ntmps70
    go_wp2_with (go_at_call 80; (with_reducible refine HP2.out.mono ?_); rintro e w1 ⟨rfl, hb1⟩)
    go_ret2
    exact ⟨fun u hu => by cases hu; rfl, fun h => by (cases h), hb1⟩
  | none =>
    rw [ho] at HP
    have HP2 : Hid (Calls Tryd.prog 80 #[.string s, .int .i64 (b : Nat), .int .i64 32] w fun e w' => e = .returned (.tuple #[.int .u64 0, .iface 111 (.int .i64 2)]) ∧ Below w.heap.size w w') := hid HP.out
    clear ho HP
    go_enter Tryd.func70, Tryd.ntmps70
    go_wp2_with (first
      | (go_at_call 80; (with_reducible refine HP2.out.mono ?_); rintro e w1 ⟨rfl, hb1⟩)
      | (go_at_call 81; (with_reducible refine (HE.out _ hb1).mono ?_); rintro e w2 ⟨⟨N, rfl⟩, hb2⟩))
    go_ret2
    exact ⟨fun u hu => by (cases hu), fun _ => ⟨N, rfl⟩, hb1.trans (hb2.mono hb1.size)⟩
end Go.Proofs.YtbiiaepmemdlgaaDoor
