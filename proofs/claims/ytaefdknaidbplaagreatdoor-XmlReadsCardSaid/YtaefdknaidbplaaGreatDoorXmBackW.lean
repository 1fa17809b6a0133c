/-
  LAYER 11, the law XmlBack: its walk.
-/
import Derived.Test.YtaefdknaidbplaaGreatDoorXmWr
import Derived.Test.YtaefdknaidbplaaGreatDoorXmAsW
namespace Go.Proofs.YtaefdknaidbplaaGreatDoor
open Go.RowKit
set_option linter.unusedVariables false
set_option maxRecDepth 100000

theorem readR_cases {l : List UInt8} (hl : l.length ≤ 20000) : (∃ L n, readX l = (some L, n) ∧ readR l = (L, 0, 0)) ∨ ∃ n : Nat, readX l = (none, n) ∧ readR l = ([], 8, (n : Int)) := by
  rcases h : readX l with ⟨o, n⟩
  cases o with
  | some L => exact .inl ⟨L, n, rfl, readR_of hl h⟩
  | none => exact .inr ⟨n, rfl, readR_bad hl h _ rfl⟩
/-- Write at any world since. -/
theorem kWrite {w : World} (hG : Gb w.heap.size w) {L : List TkX} (hlen : (writeX L).length ≤ 4900000) (hL : L.length ≤ 1000000) (hA : ∀ t ∈ L, t.as.length ≤ 1000000) {v : Value} {wx : World} (h : TokAt wx v L) (hb : Below w.heap.size w wx) :
    Calls Tryz.prog 10 #[v] wx fun e w' => e = .returned (.string (mk (writeX L))) ∧ Below w.heap.size w w' ∧ Below wx.heap.size wx w' :=
  (Write_any (gb_at hG hb) (Nat.le_refl _) h hlen hL hA).mono fun e w' ⟨h1, h3⟩ => ⟨h1, hb.trans (h3.mono hb.size), h3⟩
theorem mem_write {t : TkX} : ∀ {L : List TkX}, t ∈ L → (wTk t).length ≤ (writeX L).length
  | x :: r, h => by
    rw [write_cons, List.length_append]
    rcases List.mem_cons.1 h with e | e
    · subst e; omega
    · have := mem_write e; omega
theorem wAts_ge : ∀ A : List AtX, A.length ≤ (A.flatMap wAt).length
  | [] => by simp
  | a :: r => by
    have := wAts_ge r
    rw [List.flatMap_cons, List.length_append, List.length_cons, wAt_is]
    simp only [List.length_append, List.length_cons, List.length_nil]
    omega
/-- Tokens that were read have no more attributes than they are written with. -/
theorem read_ats {s : List UInt8} {L : List TkX} {n : Nat} (h : readX s = (some L, n)) {t : TkX} (ht : t ∈ L) : t.as.length ≤ (writeX L).length := by
  have h1 := mem_write ht
  rcases (read_ok h).1 t ht with ⟨h, k⟩ | ⟨h, k⟩ | ⟨h, k⟩
  · rw [wTk_1 h] at h1
    have := wAts_ge t.as
    simp only [List.length_append, List.length_cons, List.length_nil] at h1
    omega
  · rw [k.2.1]; simp
  · rw [k.2.1]; simp
theorem write_ge : ∀ L : List TkX, (∀ t ∈ L, TkOk t) → L.length ≤ (writeX L).length
  | [], _ => by simp
  | t :: r, h => by
    have h1 := write_ge r (fun x hx => h x (List.mem_cons_of_mem t hx))
    have h2 : 1 ≤ (wTk t).length := by
      rcases h t (List.mem_cons_self ..) with ⟨k, _⟩ | ⟨k, _⟩ | ⟨k, _, _, q⟩
      · rw [wTk_1 k]; simp only [List.length_append, List.length_cons, List.length_nil]; omega
      · rw [wTk_2 k]; simp only [List.length_append, List.length_cons, List.length_nil]; omega
      · rw [wTk_3 k]
        have := escX_ge t.t
        have h0 : t.t.length ≠ 0 := by simpa using q
        omega
    rw [write_cons, List.length_append, List.length_cons]
    omega
theorem read_few' {s : List UInt8} {L : List TkX} {n : Nat} (h : readX s = (some L, n)) : L.length ≤ (writeX L).length := write_ge L (read_ok h).1
end Go.Proofs.YtaefdknaidbplaaGreatDoor

