/-
  LAYER 11 (xml), THE DOCUMENT's: Write.
-/
import Derived.Test.YtaefdknaidbplaaGreatDoorXmRfE
namespace Go.Proofs.YtaefdknaidbplaaGreatDoor
open Go.RowKit
set_option linter.unusedVariables false
set_option maxRecDepth 100000

theorem mk_str1 (l : List UInt8) : (⟨l.toArray⟩ : ByteArray) = mk l := rfl
theorem flat_len_le {α : Type} (f : α → List UInt8) (m : Nat) : ∀ (l : List α), (∀ x ∈ l, (f x).length ≤ m) → (l.flatMap f).length ≤ l.length * m
  | [], _ => by simp
  | x :: r, h => by
    have h1 := flat_len_le f m r (fun y hy => h y (List.mem_cons_of_mem x hy))
    have h2 := h x (List.mem_cons_self ..)
    rw [List.flatMap_cons, List.length_append, List.length_cons, Nat.add_mul]
    omega
theorem sm_at {t : TkX} (h : TkSm t) {z : AtX} (hz : z ∈ t.as) : (wAt z).length ≤ 1904 := by
  have := wAt_len z
  have := h.at' z hz
  omega
theorem sm_ats {t : TkX} (h : TkSm t) : (t.as.flatMap wAt).length ≤ 38080 := by
  have h1 := flat_len_le wAt 1904 t.as (fun z hz => sm_at h hz)
  have := h.la
  have h2 : t.as.length * 1904 ≤ 20 * 1904 := Nat.mul_le_mul_right _ this
  omega
theorem sm_tk {t : TkX} (h : TkSm t) : (wTk t).length ≤ 38182 := by
  have h1 := h.ln
  have h2 := h.lt
  have h3 := sm_ats h
  have h4 := escX_le t.t
  by_cases k1 : t.k = 1
  · rw [wTk_1 k1]; simp only [List.length_append, List.length_cons, List.length_nil]; omega
  · by_cases k2 : t.k = 2
    · rw [wTk_2 k2]; simp only [List.length_append, List.length_cons, List.length_nil]; omega
    · by_cases k3 : t.k = 3
      · rw [wTk_3 k3]; omega
      · rw [wTk_no k1 k2 k3]; simp
theorem sm_write {L : List TkX} (hL : L.length ≤ 100) (h : ∀ t ∈ L, TkSm t) : (writeX L).length ≤ 3818200 := by
  have h1 := flat_len_le wTk 38182 L (fun t ht => sm_tk (h t ht))
  have h2 : L.length * 38182 ≤ 100 * 38182 := Nat.mul_le_mul_right _ hL
  show (L.flatMap wTk).length ≤ _
  omega
def WfRel (w : World) (L : List TkX) (s i : Value) (wr : World) : Prop := ∃ k : Nat, k ≤ L.length ∧ i = .int .i64 k ∧ s = .string (mk (writeX (L.take k))) ∧ Below w.heap.size w wr
def AfRel (w : World) (l : List UInt8) (A : List AtX) (s i : Value) (wr : World) : Prop := ∃ k : Nat, k ≤ A.length ∧ i = .int .i64 k ∧ s = .string (mk (l ++ (A.take k).flatMap wAt)) ∧ Below w.heap.size w wr
set_option maxHeartbeats 16000000 in
theorem refWrite_any {w : World} {v : Value} {L : List TkX} (h : RokAt w v L) (hL : L.length ≤ 100) (hS : ∀ t ∈ L, TkSm t) :
    Calls Tryz.prog 11 #[v] w fun e w' => e = .returned (.string (mk (writeX L))) ∧ Below w.heap.size w w' := by
  obtain ⟨a1, c1, rfl, t1⟩ := rks_at h
  have HT := hid t1
  have HS := hid hS
  have HW := hid (sm_write hL hS)
  clear h t1 hS
  go_enter Tryz.func11, Tryz.ntmps11
  go_wp2
  go_loopw [3, 4] (WfRel w L) (fun s i _ => L.length - (intOf i).toNat)
  case atStart => exact ⟨0, Nat.zero_le _, rfl, rfl, Below.refl _ _⟩
  case round =>
    obtain ⟨w4, rfl⟩ : ∃ w4, w4 = wr := ⟨wr, rfl⟩
    obtain ⟨k, hk, rfl, rfl, hb⟩ := hrel
    by_cases hlt : k < L.length
    · have hkI : (k : Int) < (L.length : Int) := by omega
      have hx : L[k]? = some L[k] := by simp [hlt]
      have hsm : TkSm L[k] := HS.out _ (List.getElem_mem hlt)
      generalize L[k] = t at hx hsm
      obtain ⟨hw1, hw2⟩ := write_take hx
      obtain ⟨sb, so, aa, ac, rfl, r1, f1⟩ := HT.out k t hx
      obtain ⟨x0, x1, x2, x3⟩ := f1 _ hb
      have HR : Hid (∀ (u : List UInt8) i w2, u = writeX (L.take k) ++ wTk t → i = .int .i64 ((k + 1 : Nat) : Int) → Below w.heap.size w w2 → WfRel w L (.string (mk u)) i w2) := hid (fun u i w2 e hi hb => ⟨k + 1, by omega, hi, by rw [hw1, e], hb⟩)
      have hbr : Below w4.heap.size w4 (w4.alloc (.cells #[.int .i64 t.k, .string (mk t.n), .slice aa t.as.length ac, .string (mk t.t)] 42)) := (Below.refl _ _).alloc (Nat.le_refl _) _
      have hbr2 := hb.trans (hbr.mono hb.size)
      have hq : own (w4.alloc (.cells #[.int .i64 t.k, .string (mk t.n), .slice aa t.as.length ac, .string (mk t.t)] 42)) w4.heap.size #[.int .i64 t.k, .string (mk t.n), .slice aa t.as.length ac, .string (mk t.t)] 42 := own.new w4 _ _
      have z0 := hq.cell 0
      have z1 := hq.cell 1
      have z2 := hq.cell 2
      have z3 := hq.cell 3
      simp only [List.getElem?_toArray, List.getElem?_cons_zero, List.getElem?_cons_succ] at z0 z1 z2 z3
      have hll : (writeX (L.take k)).length + (wTk t).length ≤ 3818200 := by have := HW.out; omega
      have hA : (mk (writeX (L.take k))).size ≤ 3818200 := by rw [mk_size]; omega
      have hN : (mk t.n).size ≤ 100 := by rw [mk_size]; exact hsm.ln
      generalize writeX (L.take k) = A at *
      by_cases k1 : t.k = 1
      · have hl1 := wTk_1 k1
        have hl2 : A.length + (2 + t.n.length + (t.as.flatMap wAt).length) ≤ 3818200 := by rw [hl1] at hll; simp only [List.length_append, List.length_cons, List.length_nil] at hll; omega
        have y0 : ¬ (9223372036854775807 < (mk A).size + 1) := by omega
        have y1 : ¬ (9223372036854775807 < (mk A).size + 1 + (mk t.n).size) := by omega
        have hB0 : (mk A ++ ⟨#[60]⟩ ++ mk t.n : ByteArray) = mk (A ++ [60] ++ t.n) := by rw [show (⟨#[60]⟩ : ByteArray) = mk [60] from rfl, mk_append, mk_append]
        rw [k1] at x0 z0 z1 z2 z3
        have HB2 := hid hbr2
        rw [k1] at HB2 hq hbr
        obtain ⟨_, _, e1, g1⟩ := ras_at r1
        cases e1
        have HQ := hid hq
        have HG := hid g1
        have HSM := hid hsm
        have HBR := hid hbr
        have HL2 := hid hl2
        have HE : Hid (∀ i w2, i = .int .i64 ((k + 1 : Nat) : Int) → Below w.heap.size w w2 → WfRel w L (.string (mk (A ++ [60] ++ t.n ++ t.as.flatMap wAt) ++ ⟨#[62]⟩)) i w2) := hid (fun i w2 hi hb => by
          rw [show (⟨#[62]⟩ : ByteArray) = mk [62] from rfl, mk_append]
          exact HR.out _ i w2 (by rw [hl1]; simp only [List.append_assoc]) hi hb)
        clear HR hx hw1 hw2 r1 f1 hbr hbr2 hq hll hsm g1 hl1 hl2
        generalize hW : w4.alloc (.cells #[.int .i64 1, .string (mk t.n), .slice aa t.as.length ac, .string (mk t.t)] 42) = W at *
        go_wp2
        clear x0 x1 x2 x3
        go_loopw [3, 6] (AfRel W (A ++ [60] ++ t.n) t.as) (fun s i _ => t.as.length - (intOf i).toNat)
        case atStart => exact ⟨0, Nat.zero_le _, rfl, by simp, Below.refl _ _⟩
        case round =>
          obtain ⟨j, hj, rfl, rfl, hbj⟩ := hrel
          have hWl : w4.heap.size < W.heap.size := HQ.out.lt
          have hla : t.as.length ≤ 20 := HSM.out.la
          have hqj : own wr w4.heap.size #[.int .i64 1, .string (mk t.n), .slice aa t.as.length ac, .string (mk t.t)] 42 := HQ.out.same (hbj.block _ hWl)
          have z2 := hqj.cell 2
          simp only [List.getElem?_toArray, List.getElem?_cons_zero, List.getElem?_cons_succ] at z2
          by_cases hjl : j < t.as.length
          · have hjI : (j : Int) < (t.as.length : Int) := by omega
            have hz : t.as[j]? = some t.as[j] := by simp [hjl]
            have hz2 : t.as.take (j + 1) = t.as.take j ++ [t.as[j]] := by rw [List.take_succ_eq_append_getElem hjl]
            have hzm : t.as[j] ∈ t.as := List.getElem_mem hjl
            generalize t.as[j] = z at hz hz2 hzm
            obtain ⟨sb2, so2, rfl, g1⟩ := HG.out j z hz
            have hbw := HB2.out.trans (hbj.mono HB2.out.size)
            obtain ⟨v0, v1⟩ := g1 _ hbw
            have hwz := sm_at HSM.out hzm
            have hzn := HSM.out.at' z hzm
            have hL2 := HL2.out
            have hfl : ((t.as.take j).flatMap wAt).length + (wAt z).length ≤ (t.as.flatMap wAt).length := by
              have e : t.as.flatMap wAt = (t.as.take (j + 1)).flatMap wAt ++ (t.as.drop (j + 1)).flatMap wAt := by rw [← List.flatMap_append, List.take_append_drop]
              rw [e, hz2, List.flatMap_append, List.length_append, List.length_append]
              simp
            have HK : Hid (∀ w2, Below wr.heap.size wr w2 → (w2.cell? ⟨w4.heap.size, 2, none⟩ = some (.slice (some ⟨sb2, so2, none⟩) t.as.length ac) ∧ w2.cell? ⟨sb2, so2 + j * 2, none⟩ = some (.string (mk z.n)) ∧ w2.cell? ⟨sb2, so2 + j * 2 + 1, none⟩ = some (.string (mk z.v)) ∧ Below wr.heap.size wr w2)) := hid (fun w2 h2 => by
              obtain ⟨u0, u1⟩ := g1 w2 (hbw.trans (h2.mono hbw.size))
              have ho := hqj.same (h2.block _ hqj.lt)
              exact ⟨by rw [ho.cell]; rfl, u0, u1, h2⟩)
            have HC : Hid (∀ wx : World, Calls Tryz.prog 13 #[.string (mk z.v)] wx fun e w' => e = .returned (.string (mk (escX z.v))) ∧ Below wx.heap.size wx w') := hid (fun wx => by
              have := refEscape_any (w := wx) (mk z.v) (by rw [mk_size]; omega)
              rw [mk_data] at this
              exact this)
            have HJ : Hid (∀ i w2, i = .int .i64 ((j + 1 : Nat) : Int) → Below wr.heap.size wr w2 → AfRel W (A ++ [60] ++ t.n) t.as (.string (mk (A ++ [60] ++ t.n ++ (t.as.take j).flatMap wAt) ++ ⟨#[32]⟩ ++ mk z.n ++ ⟨#[61, 34]⟩ ++ mk (escX z.v) ++ ⟨#[34]⟩)) i w2) := hid (fun i w2 hi hb => by
              refine ⟨j + 1, by omega, hi, ?_, hbj.trans (hb.mono hbj.size)⟩
              rw [show (⟨#[32]⟩ : ByteArray) = mk [32] from rfl, show (⟨#[61, 34]⟩ : ByteArray) = mk [61, 34] from rfl, show (⟨#[34]⟩ : ByteArray) = mk [34] from rfl, mk_append, mk_append, mk_append, mk_append, mk_append, hz2, List.flatMap_append, List.flatMap_cons, List.flatMap_nil, List.append_nil, wAt_is]
              simp only [List.append_assoc])
            have hlj : (mk (A ++ [60] ++ t.n ++ (t.as.take j).flatMap wAt)).size ≤ 3818200 := by rw [mk_size]; simp only [List.length_append, List.length_cons, List.length_nil] at hL2 ⊢; omega
            have hnn : (mk z.n).size ≤ 100 := by rw [mk_size]; exact hzn.1
            have hvv : (mk (escX z.v)).size ≤ 1800 := by rw [mk_size]; have := escX_le z.v; omega
            generalize (A ++ [60] ++ t.n ++ (t.as.take j).flatMap wAt) = lj at *
            have y2 : ¬ (9223372036854775807 < (mk lj).size + 1) := by omega
            have y3 : ¬ (9223372036854775807 < (mk lj).size + 1 + (mk z.n).size) := by omega
            have y4 : ¬ (9223372036854775807 < (mk lj).size + 1 + (mk z.n).size + 2) := by omega
            have y5 : ¬ (9223372036854775807 < (mk lj).size + 1 + (mk z.n).size + 2 + (mk (escX z.v)).size) := by omega
            have y6 : ¬ (9223372036854775807 < (mk lj).size + 1 + (mk z.n).size + 2 + (mk (escX z.v)).size + 1) := by omega
            clear hz hz2 hzm g1 hwz hzn hL2 hfl hlj hnn hvv hqj hB0 HE hbw
            go_wp2
            go_region_held3 (fun wx => wx.cell? ⟨w4.heap.size, 2, none⟩ = some (.slice (some ⟨sb2, so2, none⟩) t.as.length ac) ∧ wx.cell? ⟨sb2, so2 + j * 2, none⟩ = some (.string (mk z.n)) ∧ wx.cell? ⟨sb2, so2 + j * 2 + 1, none⟩ = some (.string (mk z.v)) ∧ Below wr.heap.size wr wx) (first | exact HK.out _ (Below.refl _ _) | exact HK.out _ (Below.drew (Below.refl _ _)) | exact HK.out _ hb3 | go_keep)
              (first | (go_at_call 13; (with_reducible refine (HC.out _).mono ?_); rintro e w2 ⟨rfl, hb2⟩; have hb3 : Below wr.heap.size wr w2 := Below.trans (And.right (And.right (And.right (by assumption)))) (hb2.mono (Below.size (And.right (And.right (And.right (by assumption))))))))
            all_goals
              go_wp2
              go_roundw
              case rel => exact HJ.out _ _ (by go_num) hb3
              case measure => simp [intOf]; omega
          · obtain rfl : j = t.as.length := by omega
            have hfull : t.as.take t.as.length = t.as := List.take_of_length_le (Nat.le_refl _)
            have hbw := HB2.out.trans (hbj.mono HB2.out.size)
            have hL2 := HL2.out
            have y3 : ¬ (9223372036854775807 < (mk (A ++ [60] ++ t.n ++ t.as.flatMap wAt)).size + 1) := by rw [mk_size]; simp only [List.length_append, List.length_cons, List.length_nil] at hL2 ⊢; omega
            rw [hfull]
            generalize (A ++ [60] ++ t.n ++ t.as.flatMap wAt) = lf at *
            clear hfull hqj hL2 hB0
            go_wp2
            go_roundw
            case rel => exact HE.out _ _ (by go_num) hbw
            case measure => simp [intOf]; omega
      · have n1 : ((t.k : Int) == 1) = false := beq_eq_false_iff_ne.2 k1
        by_cases k2 : t.k = 2
        · have HE : Hid (∀ i w2, i = .int .i64 ((k + 1 : Nat) : Int) → Below w.heap.size w w2 → WfRel w L (.string (mk A ++ ⟨#[60, 47]⟩ ++ mk t.n ++ ⟨#[62]⟩)) i w2) := hid (fun i w2 hi hb => by
            have e : (mk A ++ ⟨#[60, 47]⟩ ++ mk t.n ++ ⟨#[62]⟩ : ByteArray) = mk (A ++ wTk t) := by
              rw [wTk_2 k2, show (⟨#[60, 47]⟩ : ByteArray) = mk [60, 47] from rfl, show (⟨#[62]⟩ : ByteArray) = mk [62] from rfl, mk_append, mk_append, mk_append]
              simp only [List.append_assoc]
            rw [e]
            exact HR.out _ i w2 rfl hi hb)
          have y0 : ¬ (9223372036854775807 < (mk A).size + 2) := by omega
          have y1 : ¬ (9223372036854775807 < (mk A).size + 2 + (mk t.n).size) := by omega
          have y2 : ¬ (9223372036854775807 < (mk A).size + 2 + (mk t.n).size + 1) := by omega
          rw [k2] at x0 z0
          have HB2 := hid hbr2
          rw [k2] at HB2
          clear HR hx hw1 hw2 r1 f1 hbr hbr2 hq hll hsm
          go_wp2
          go_roundw
          case rel => exact HE.out _ _ (by go_num) HB2.out
          case measure => simp [intOf]; omega
        · have n2 : ((t.k : Int) == 2) = false := beq_eq_false_iff_ne.2 k2
          by_cases k3 : t.k = 3
          · have HE : Hid (∀ i w2, i = .int .i64 ((k + 1 : Nat) : Int) → Below w.heap.size w w2 → WfRel w L (.string (mk A ++ mk (escX t.t))) i w2) := hid (fun i w2 hi hb => by
              rw [mk_append]
              exact HR.out _ i w2 (by rw [wTk_3 k3]) hi hb)
            have hX : (mk (escX t.t)).size ≤ 3000 := by rw [mk_size]; have := escX_le t.t; have := hsm.lt; omega
            have y0 : ¬ (9223372036854775807 < (mk A).size + (mk (escX t.t)).size) := by omega
            have HC : Hid (∀ wx : World, Calls Tryz.prog 13 #[.string (mk t.t)] wx fun e w' => e = .returned (.string (mk (escX t.t))) ∧ Below wx.heap.size wx w') := hid (fun wx => by
              have := refEscape_any (w := wx) (mk t.t) (by rw [mk_size]; have := hsm.lt; omega)
              rw [mk_data] at this
              exact this)
            rw [k3] at x0 z0
            have HB2 := hid hbr2
            rw [k3] at HB2
            clear n1 n2 HR hx hw1 hw2 r1 f1 hbr hbr2 hq hll hsm
            go_wp2_with (go_at_call 13; (with_reducible refine (HC.out _).mono ?_); rintro e w2 ⟨rfl, hb2⟩)
            go_roundw
            case rel => exact HE.out _ _ (by go_num) (HB2.out.trans (hb2.mono HB2.out.size))
            case measure => simp [intOf]; omega
          · have n3 : ((t.k : Int) == 3) = false := beq_eq_false_iff_ne.2 k3
            have HE := hid (fun i w2 => HR.out A i w2 (by rw [wTk_no k1 k2 k3, List.append_nil]))
            have HB2 := hid hbr2
            clear HR hx hw1 hw2 r1 f1 hbr hbr2 hq hll hsm
            go_wp2
            go_roundw
            case rel => exact HE.out _ _ (by go_num) HB2.out
            case measure => simp [intOf]; omega
    · obtain rfl : k = L.length := by omega
      have hfull : L.take L.length = L := List.take_of_length_le (Nat.le_refl _)
      rw [hfull]
      clear hfull
      go_wp2
      go_ret
      exact ⟨rfl, hb⟩
end Go.Proofs.YtaefdknaidbplaaGreatDoor
