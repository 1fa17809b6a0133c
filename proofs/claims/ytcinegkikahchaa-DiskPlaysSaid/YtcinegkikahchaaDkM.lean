/-
  LAYER 2 (disk), the laws' own helpers: made.
-/
import Derived.Test.YtcinegkikahchaaDkL
namespace Go.Proofs.Ytcinegkikahchaa
open Go.RowKit Go.Maps
set_option linter.unusedVariables false
set_option maxRecDepth 100000

def MadePost (w : World) (s : Dk) (e : Ending) (w' : World) : Prop := ∃ a S, e = .returned (.tuple #[.pointer (some ⟨a, 0, none⟩), .bool true]) ∧ DiskIs w' S a s ∧ (∀ b, S b → w.heap.size ≤ b) ∧ Below w.heap.size w w'
theorem acts_snoc (s : Dk) (l : List Ac) (a : Ac) : acts s (l ++ [a]) = (act (acts s l) a).1 := by simp [acts]

def MadeRel (w w1 : World) (S : Nat → Prop) (a : Nat) (s0 : Dk) (l : List Ac) (u : Value) (wr : World) : Prop :=
  ∃ k : Nat, k ≤ l.length ∧ u = .int .i64 k ∧ DiskIs wr (grow S w1 wr) a (acts s0 (l.take k)) ∧ Chg S w1 wr

set_option maxHeartbeats 4000000 in
theorem made_any (most : Int) (v : Value) (l : List Ac) (w : World) (B : Nat) (hB : B ≤ w.heap.size) (hv : ActsAt w B v l) (hok : ∀ a ∈ l, AcOk a) (hl : l.length ≤ 80) (hm0 : -9223372036854775808 ≤ most) (hm1 : most ≤ 9223372036854775807) :
    Calls Try.prog 23 #[.int .i64 most, v] w (MadePost w (acts (newD (pickZ most 3000)) l)) := by
  obtain ⟨a0, cap, rfl, hc⟩ := hv
  have hr := pickZ_range most 3000 (by omega)
  have HP := hid (fun wx => pick_any most 3000 wx (by omega) (by omega) hm0 hm1)
  have HN := hid (new_ok (pickZ most 3000) w hr.1 (by omega))
  generalize pickZ most 3000 = m at *
  have HC := hid hc
  have HO := hid hok
  clear hc hok
  go_enter Try.func23, Try.ntmps23
  go_wp2_with (first
    | (go_at_call 15; (with_reducible refine (HP.out _).mono ?_); rintro e w2 ⟨rfl, rfl⟩)
    | (go_at_call 11; (with_reducible refine HN.out.mono ?_); rintro e w1 ⟨a, S, rfl, hD, hS, hb1⟩))
  have HD := hid hD
  have HS := hid hS
  clear hD hS
  go_loopw [8] (MadeRel w w1 S a (newD m) l) (fun i _ => l.length - (intOf i).toNat)
  case atStart =>
    obtain ⟨mb, F, h⟩ := HD.out
    exact ⟨0, Nat.zero_le _, rfl, ⟨mb, F, h.widen grow_mono (grow_lt h.lt (Nat.le_refl _))⟩, Chg.refl _ _⟩
  case round =>
    obtain ⟨k, hk, rfl, hDr, hcr⟩ := hrel
    have hlS : ∀ b, S b → b < w1.heap.size := by obtain ⟨mb, F, h⟩ := HD.out; exact h.lt
    by_cases hlt : k < l.length
    · have hne : l ≠ [] := fun e => by rw [e] at hlt; simp at hlt
      obtain ⟨b, o, rfl, hbB, hact⟩ := HC.out hne
      obtain ⟨kv, nv, hA0⟩ := hact k l[k] (by simp [hlt])
      have hsame : ∀ b, b < B → wr.heap[b]? = w.heap[b]? := fun b hb => by
        rw [hcr.block b (by have := hb1.size; omega) (fun hSb => by have := HS.out b hSb; omega), hb1.block b (by omega)]
      have hA := hA0.same hbB hsame
      have hDo := does_any hDr (B := B) (by have := hb1.size; have := hcr.size; omega) (fun b hb => by
        rcases hb with hb | hb
        · have := HS.out b hb; omega
        · have := hb1.size; omega) l[k] (HO.out _ (List.getElem_mem hlt)) kv nv hA.k hA.n
      have hDo' : Calls Try.prog 16 #[.pointer (some ⟨a, 0, none⟩), .agg #[.int .i64 l[k].op, .int .i64 l[k].n, .string l[k].name, .string l[k].to, .string l[k].data, kv, nv]] wr (fun e w' => ∃ u1 u2, e = .returned (.tuple #[.string u1, .int .i64 u2]) ∧ Hid (DiskIs w' (grow S w1 w') a (acts (newD m) (l.take (k + 1))) ∧ Chg S w1 w')) := by
        refine hDo.mono ?_
        rintro e w' ⟨rfl, ⟨mb2, F2, hD2⟩, hc2⟩
        refine ⟨_, _, rfl, hid ⟨⟨mb2, F2, ?_⟩, hcr.trans hc2 (fun b hb => by rcases hb with hb | hb; exact .inl hb; exact .inr hb.1)⟩⟩
        rw [List.take_succ_eq_append_getElem hlt, acts_snoc]
        refine hD2.widen (fun b hb => ?_) (grow_lt hlS (by have := hcr.size; have := hc2.size; omega))
        rcases hb with (hb | hb) | hb
        · exact .inl hb
        · exact .inr ⟨hb.1, by have := hc2.size; omega⟩
        · exact .inr ⟨by have := hcr.size; omega, hb.2⟩
      have HDo := hid hDo'
      have d0 := hA.c0
      have d1 := hA.c1
      have d2 := hA.c2
      have d3 := hA.c3
      have d4 := hA.c4
      have d5 := hA.c5
      have d6 := hA.c6
      obtain ⟨ka, kc, rfl, _⟩ := id hA.k
      obtain ⟨na, nc, rfl, _⟩ := id hA.n
      clear hDo hDo' hA hA0 hact hne HC hsame hDr hcr
      generalize l[k].op = x0 at *
      generalize l[k].n = x1 at *
      generalize l[k].name = x2 at *
      generalize l[k].to = x3 at *
      generalize l[k].data = x4 at *
      generalize l[k].keep = x5 at *
      generalize l[k].noise = x6 at *
      go_wp2_with (go_at_call 16; (with_reducible refine HDo.out.mono ?_); rintro e w3 ⟨u1, u2, rfl, hQ⟩)
      go_roundw
      case rel => exact ⟨k + 1, by omega, by go_num, hQ.out⟩
      case measure => simp [intOf]; omega
    · obtain rfl : k = l.length := by omega
      rw [List.take_of_length_le (Nat.le_refl _)] at hDr
      have hfin : MadePost w (acts (newD m) l) (.returned (.tuple #[.pointer (some ⟨a, 0, none⟩), .bool true])) wr :=
        ⟨a, _, rfl, hDr, fun b hb => by
          rcases hb with hb | hb
          · exact HS.out b hb
          · have := hb1.size; omega, hb1.trans (hcr.below hb1.size (fun b hb => HS.out b hb))⟩
      have HF := hid hfin
      clear hfin hDr hcr
      go_wp2
      go_ret2
      exact HF.out
end Go.Proofs.Ytcinegkikahchaa
