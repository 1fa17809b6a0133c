import Derived.Test.YtjoeamlidmmioaaGreatDoorMq4J
import Derived.Deep.RegionLaw
/-
  LAYER 12 (tree), THE PROGRAM: say.
-/
namespace Go.Proofs.YtjoeamlidmmioaaGreatDoor
open Go.RowKit
set_option linter.unusedVariables false
set_option maxRecDepth 100000

theorem dropW_nil {p : UInt8 → Bool} : ∀ (l : List UInt8), l.dropWhile p = [] ↔ l.all p = true
  | [] => by simp
  | c :: r => by
    rw [List.dropWhile_cons, List.all_cons]
    cases hc : p c with
    | true => simpa using dropW_nil r
    | false => simp
theorem all_dropW {p : UInt8 → Bool} : ∀ (l : List UInt8), (l.dropWhile p).all p = l.all p
  | [] => rfl
  | c :: r => by
    rw [List.dropWhile_cons]
    cases hc : p c with
    | true => simp [hc, all_dropW r]
    | false => simp [hc]
theorem trim_none {l : List UInt8} : Lib.trimS l [32, 9, 10, 13] = [] ↔ l.all spcX = true := by
  have hp : (fun c : UInt8 => ([32, 9, 10, 13] : List UInt8).contains c) = spcX := by funext c; simp [spcX, Bool.or_assoc]; rfl
  unfold Lib.trimS Lib.trimLeftS Lib.trimRightS
  rw [hp, dropW_nil, List.all_reverse, all_dropW, List.all_reverse]
theorem trTrim_any (s : ByteArray) (hs : s.size ≤ 9223372036854775807) (w : World) :
    Calls Tryz.prog 42 #[.string s, .string ⟨#[32, 9, 10, 13]⟩] w fun e w' => e = .returned (.string (mk (Lib.trimS s.data.toList [32, 9, 10, 13]))) ∧ Below w.heap.size w w' :=
  (Any.strings_Trim_laid Tryz.trTrim (by kernel_rfl) s ⟨#[32, 9, 10, 13]⟩ w hs (by decide) (ascii_of_all (by decide))).mono fun x w' ⟨h1, h2⟩ => ⟨h1, h2⟩
theorem say_take {s : BdX} {t : TkX} (hk : t.k = 3) : takeX s t = match s.op with
    | [] => if t.t.all spcX then (0, s) else (8, s)
    | e :: r => (0, ⟨{ e with ws := e.ws ++ [t.t] } :: r, s.root⟩) := by
  unfold takeX
  rw [if_neg (by omega), if_neg (by omega), if_pos hk]
  rfl
set_option maxHeartbeats 4000000 in
theorem say_any {w0 w : World} {b : Nat} {s : BdX} (h : BdHas w0 w b s) (t : TkX) (hk : t.k = 3) (ht : t.t.length ≤ maxLen) (hl : ∀ e st, s.op = e :: st → e.ws.length ≤ 1000000) (hop : s.op.length ≤ 20) :
    Calls Tryz.prog 22 #[.pointer (some ⟨b, 0, none⟩), .string (mk t.t)] w fun e w' => e = .returned (.int .i64 (takeX s t).1) ∧ BdHas w0 w' b (takeX s t).2 := by
  rw [say_take hk]
  have HB := hid h
  obtain ⟨ρ, ao, cap, V, rx, h⟩ := h
  have c0 : w.cell? ⟨b, 0, none⟩ = some (.slice ao V.length cap) := by rw [h.blk.cell]; rfl
  have hV := h.len
  obtain ⟨op, r⟩ := s
  cases op with
  | nil =>
    have hv0 : V.length = 0 := hV
    rw [hv0] at c0
    have HT := hid (fun wx => trTrim_any (mk t.t) (by rw [mk_size]; unfold maxLen at ht; omega) wx)
    simp only
    by_cases ha : t.t.all spcX = true
    · rw [if_pos ha]
      rw [mk_data, trim_none.2 ha] at HT
      have hemp : (mk []).toList.isEmpty = true := by rw [Lib.toList_data]; rfl
      clear h hV hop ht
      go_enter Tryz.func22, Tryz.ntmps22
      go_wp2_with (go_at_call 42; (with_reducible refine (HT.out _).mono ?_); rintro e w1 ⟨rfl, hb⟩)
      go_ret
      exact ⟨rfl, bdHas_later HB.out hb⟩
    · rw [if_neg ha]
      have hne : Lib.trimS t.t [32, 9, 10, 13] ≠ [] := fun q => ha (trim_none.1 q)
      rw [mk_data] at HT
      generalize Lib.trimS t.t [32, 9, 10, 13] = z at *
      have hemp : (mk z).toList.isEmpty = false := by
        rw [Lib.toList_data]
        cases z with
        | nil => exact absurd rfl hne
        | cons _ _ => rfl
      have hemp2 : ((mk z).toList == []) = false := by
        rw [Lib.toList_data]
        cases z with
        | nil => exact absurd rfl hne
        | cons _ _ => rfl
      clear h hV hop ht ha hne
      go_enter Tryz.func22, Tryz.ntmps22
      go_wp2_with (go_at_call 42; (with_reducible refine (HT.out _).mono ?_); rintro e w1 ⟨rfl, hb⟩)
      go_ret
      exact ⟨rfl, bdHas_later HB.out hb⟩
  | cons e st =>
    obtain ⟨y, g, hy, hl2, hE, hao, hg, hρ, hcs, hfz⟩ := bdAt_last h
    subst hao
    have hbe : Below w.heap.size w (w.alloc (.cells #[.string (mk t.t)] 9)).drew := ((Below.refl _ _).alloc (Nat.le_refl _) _).drew
    have hA := bdAt_later h hbe
    obtain ⟨a1, c1, w5, e1, e2, e3, e5, e4⟩ := bd_say hA t.t hy rfl (gb := w.heap.size) (cs := #[.string (mk t.t)]) (T := 9) (own.new w _ _) rfl (hl e st rfl)
    obtain ⟨y', g', hy', _, _, hao', _, _, hcs', hfz'⟩ := bdAt_last hA
    rw [hy] at hy'; cases hy'
    cases hao'
    have HF := hid e4
    have k4 : w.cell? ⟨g, st.length * 5 + 4, none⟩ = some (.slice y.w y.wm y.wc) := hcs 4 _ rfl
    have k4b : (w.alloc (.cells #[.string (mk t.t)] 9)).cell? ⟨g, st.length * 5 + 4, none⟩ = some (.slice y.w y.wm y.wc) := hcs' 4 _ rfl
    have c0b : (w.alloc (.cells #[.string (mk t.t)] 9)).cell? ⟨b, 0, none⟩ = some (.slice (some ⟨g, 0, none⟩) (st.length + 1) cap) := by rw [← hl2]; exact (by rw [hA.blk.cell]; rfl : (w.alloc (.cells #[.string (mk t.t)] 9)).drew.cell? ⟨b, 0, none⟩ = some (.slice (some ⟨g, 0, none⟩) V.length cap))
    rw [hl2] at c0 e5
    have hm20 : st.length ≤ 20 := by simp at hop; omega
    clear h hV hop ht hl hA hcs hcs' hfz hfz' hy hE e4 hl2 hk
    generalize hm : st.length = m at *
    generalize e.ws.length = wn at *
    have hw : wrap64 (m : Int) = m := by unfold wrap64; omega
    have hlt1 : (m : Int) < (m : Int) + 1 := by omega
    simp only
    go_enter Tryz.func22, Tryz.ntmps22
    go_wp2
    go_region_law (refine step_append_at e1 (by with_reducible rfl) rfl _ _ rfl rfl rfl rfl ?_)
    all_goals
      go_wp2
      go_ret
      exact ⟨rfl, HF.out⟩
end Go.Proofs.YtjoeamlidmmioaaGreatDoor

