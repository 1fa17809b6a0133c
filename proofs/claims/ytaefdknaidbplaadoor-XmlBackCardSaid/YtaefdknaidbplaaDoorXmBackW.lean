/-
  LAYER 11, the law XmlBack: its walk.
-/
import Derived.Test.YtaefdknaidbplaaDoorXmWr
import Derived.Test.YtaefdknaidbplaaDoorXmAsW
namespace Go.Proofs.YtaefdknaidbplaaDoor
open Go.RowKit
set_option linter.unusedVariables false
set_option maxRecDepth 100000

theorem readR_cases {l : List UInt8} (hl : l.length ≤ 20000) : (∃ L n, readX l = (some L, n) ∧ readR l = (L, 0, 0)) ∨ ∃ n : Nat, readX l = (none, n) ∧ readR l = ([], 8, (n : Int)) := by
  rcases h : readX l with ⟨o, n⟩
  cases o with
  | some L => exact .inl ⟨L, n, rfl, readR_of hl h⟩
  | none => exact .inr ⟨n, rfl, readR_bad hl h _ rfl⟩
/-- Write at any world since. -/
theorem kWrite {w : World} (hG : Gb w.heap.size w) {L : List TkX} (hlen : (writeX L).length ≤ 4900000) (hL : L.length ≤ 1000000) (hA : ∀ t ∈ L, t.as.length ≤ 1000000) {v : Value} {wx : World} (h : TokAt wx v L) (hb : Below w.heap.size w wx) :
    Calls Tryd.prog 6 #[v] wx fun e w' => e = .returned (.string (mk (writeX L))) ∧ Below w.heap.size w w' ∧ Below wx.heap.size wx w' :=
  (Write_any (gb_at hG hb) (Nat.le_refl _) h hlen hL hA).mono fun e w' ⟨h1, h3⟩ => ⟨h1, hb.trans (h3.mono hb.size), h3⟩
theorem mem_write {t : TkX} : ∀ {L : List TkX}, t ∈ L → (wTk t).length ≤ (writeX L).length
  | x :: r, h => by
    rw [write_cons, List.length_append]
    rcases List.mem_cons.1 h with e | e
    · subst e; omega
    · have := mem_write e; omega
theorem wAts_ge : ∀ A : List AtX, A.length ≤ (A.flatMap wAt).length
  | [] => by simp
  | a :: r => by
    have := wAts_ge r
    rw [List.flatMap_cons, List.length_append, List.length_cons, wAt_is]
    simp only [List.length_append, List.length_cons, List.length_nil]
    omega
/-- Tokens that were read have no more attributes than they are written with. -/
theorem read_ats {s : List UInt8} {L : List TkX} {n : Nat} (h : readX s = (some L, n)) {t : TkX} (ht : t ∈ L) : t.as.length ≤ (writeX L).length := by
  have h1 := mem_write ht
  rcases (read_ok h).1 t ht with ⟨h, k⟩ | ⟨h, k⟩ | ⟨h, k⟩
  · rw [wTk_1 h] at h1
    have := wAts_ge t.as
    simp only [List.length_append, List.length_cons, List.length_nil] at h1
    omega
  · rw [k.2.1]; simp
  · rw [k.2.1]; simp
theorem write_ge : ∀ L : List TkX, (∀ t ∈ L, TkOk t) → L.length ≤ (writeX L).length
  | [], _ => by simp
  | t :: r, h => by
    have h1 := write_ge r (fun x hx => h x (List.mem_cons_of_mem t hx))
    have h2 : 1 ≤ (wTk t).length := by
      rcases h t (List.mem_cons_self ..) with ⟨k, _⟩ | ⟨k, _⟩ | ⟨k, _, _, q⟩
      · rw [wTk_1 k]; simp only [List.length_append, List.length_cons, List.length_nil]; omega
      · rw [wTk_2 k]; simp only [List.length_append, List.length_cons, List.length_nil]; omega
      · rw [wTk_3 k]
        have := escX_ge t.t
        have h0 : t.t.length ≠ 0 := by simpa using q
        omega
    rw [write_cons, List.length_append, List.length_cons]
    omega
theorem read_few' {s : List UInt8} {L : List TkX} {n : Nat} (h : readX s = (some L, n)) : L.length ≤ (writeX L).length := write_ge L (read_ok h).1
set_option maxHeartbeats 16000000 in
theorem xmlBack_any {w : World} (hG : Gb w.heap.size w) (s : ByteArray) : Calls Tryd.prog 3 #[.string s] w fun e w' => e = .returned (.bool true) ∧ Below w.heap.size w w' := by
  have HS := hid (shown_any hG)
  by_cases hl : 3000 < s.size
  · have hlI : (3000 : Int) < (s.size : Int) := by omega
    clear hG
    go_enter Tryd.func3, Tryd.ntmps3
    go_wp2_with (go_at_call 4; (with_reducible refine HS.out.mono ?_); rintro e w1 ⟨rfl, hb1⟩)
    go_ret
    exact ⟨rfl, hb1⟩
  have hlI : ¬ (3000 : Int) < (s.size : Int) := by omega
  have hsl : s.data.toList.length = s.size := str_len s
  rcases readR_cases (l := s.data.toList) (by omega) with ⟨L, n, h1, hR⟩ | ⟨n, h1, hR⟩
  · have R1 := hid (kRead hG s (by omega) _ hR)
    have hwl := read_wl h1
    have hwn : (writeX L).length ≤ 72000 := by omega
    have hLn := read_few' h1
    have hAt : ∀ t ∈ L, t.as.length ≤ 1000000 := fun t ht => by have := read_ats h1 ht; omega
    have hls : L.length ≤ 1000000 := by omega
    have hwn2 : (writeX L).length ≤ 4900000 := by omega
    have KW := hid (fun (v : Value) (wx : World) (h : TokAt wx v L) (hb : Below w.heap.size w wx) => kWrite hG hwn2 hls hAt h hb)
    by_cases hlong : 20000 < (writeX L).length
    · have hlg : (20000 : Int) < ((mk (writeX L)).size : Int) := by rw [mk_size]; omega
      have R2 := hid (kRead hG (mk (writeX L)) (by rw [mk_size]; omega) ([], 10, 0) (by unfold readR; rw [mk_data, if_pos hlong]))
      clear hG h1 hR hwl hAt
      go_enter Tryd.func3, Tryd.ntmps3
      go_wp2_with (first
        | (go_at_call 4; (with_reducible refine HS.out.mono ?_); rintro e w1 ⟨rfl, hb1⟩)
        | (go_at_call 5; first
          | ((with_reducible refine (R1.out _ hb1).mono ?_); rintro e w2 ⟨a2, c2, rfl, t2, hb2, _⟩; (have W1 := hid (KW.out _ _ t2 hb2)); (have T2 := hid t2); (clear t2))
          | ((with_reducible refine (R2.out _ hb3).mono ?_); rintro e w4 ⟨a4, c4, rfl, t4, hb4, hbb4⟩; (have HAs := hid (as_all ((T2.out.below hbb3).below hbb4))); (clear t4)))
        | (go_at_call 6; (with_reducible refine W1.out.mono ?_); rintro e w3 ⟨rfl, hb3, hbb3⟩)
        | (go_at_call 7; (with_reducible refine HAs.out.mono ?_)))
      rintro e w5 ⟨hb5, rfl | ⟨a5, c5, rfl, k5, l5, m5⟩⟩
      · go_wp2
        go_ret
        exact ⟨rfl, hb4.trans (hb5.mono hb4.size)⟩
      · clear k5 m5
        go_wp2
        go_ret
        exact ⟨rfl, hb4.trans (hb5.mono hb4.size)⟩
    · have hlg : ¬ (20000 : Int) < ((mk (writeX L)).size : Int) := by rw [mk_size]; omega
      have R2 := hid (kRead hG (mk (writeX L)) (by rw [mk_size]; omega) (L, 0, 0) (by rw [mk_data]; exact readR_of (by omega) (read_back h1)))
      have q1 : ((mk (writeX L)).toList == (mk (writeX L)).toList) = true := beq_self_eq_true _
      clear hG h1 hR hwl hAt
      go_enter Tryd.func3, Tryd.ntmps3
      go_wp2_with (first
        | (go_at_call 4; (with_reducible refine HS.out.mono ?_); rintro e w1 ⟨rfl, hb1⟩)
        | (go_at_call 5; first
          | ((with_reducible refine (R1.out _ hb1).mono ?_); rintro e w2 ⟨a2, c2, rfl, t2, hb2, _⟩; (have W1 := hid (KW.out _ _ t2 hb2)); (have T2 := hid t2); (clear t2))
          | ((with_reducible refine (R2.out _ hb3).mono ?_); rintro e w4 ⟨a4, c4, rfl, t4, hb4, hbb4⟩; (have HAs := hid (as_all ((T2.out.below hbb3).below hbb4))); (have T4 := hid t4); (clear t4)))
        | (go_at_call 6; (with_reducible refine W1.out.mono ?_); rintro e w3 ⟨rfl, hb3, hbb3⟩)
        | (go_at_call 7; (with_reducible refine HAs.out.mono ?_)))
      rintro e w5 ⟨hb5, rfl | ⟨a5, c5, rfl, k5, l5, m5⟩⟩
      · go_wp2
        go_ret
        exact ⟨rfl, hb4.trans (hb5.mono hb4.size)⟩
      · have hb45 := hb4.trans (hb5.mono hb4.size)
        have HAl := hid (alike_same (T4.out.below hb5) k5 hls (fun t ht => by have := (m5 t ht).la; omega))
        have HW2 := hid (fun (w6 : World) (hb : Below w5.heap.size w5 w6) => KW.out _ _ ((T4.out.below hb5).below hb) (hb45.trans (hb.mono hb45.size)))
        clear k5 m5
        go_wp2_with (first
          | (go_at_call 8; (with_reducible refine HAl.out.mono ?_); rintro e w6 ⟨rfl, hb6⟩)
          | (go_at_call 6; (with_reducible refine (HW2.out w6 hb6).mono ?_); rintro e w7 ⟨rfl, hb7, _⟩))
        go_ret
        exact ⟨rfl, hb7⟩
  · have R1 := hid (kRead hG s (by omega) _ hR)
    clear hG h1 hR
    go_enter Tryd.func3, Tryd.ntmps3
    go_wp2_with (first
      | (go_at_call 4; (with_reducible refine HS.out.mono ?_); rintro e w1 ⟨rfl, hb1⟩)
      | (go_at_call 5; (with_reducible refine (R1.out _ hb1).mono ?_); rintro e w2 ⟨a2, c2, rfl, t2, hb2, _⟩))
    go_ret
    exact ⟨rfl, hb2⟩
end Go.Proofs.YtaefdknaidbplaaDoor
