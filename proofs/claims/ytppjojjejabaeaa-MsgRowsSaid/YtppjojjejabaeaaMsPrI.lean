/-
  LAYER 7 (msg), THE PROGRAM: entries.
-/
import Derived.Test.YtppjojjejabaeaaMsPrH
import Derived.Test.YtppjojjejabaeaaMq1
namespace Go.Proofs.Ytppjojjejabaeaa
open Go.RowKit
set_option linter.unusedVariables false
set_option maxRecDepth 100000

theorem blkOk_plain' : BlkOk 69 := ⟨by kernel_rfl, by decide⟩
/-- A builder of the text l, the first thing made since w; its buffer is v. -/
structure BuAt (w : World) (v : Value) (l : List UInt8) (wr : World) : Prop where
  bu : Bu 69 w.heap.size w.heap.size v l wr
  below : Below w.heap.size w wr
theorem BuAt.later {w wr wx : World} {v : Value} {l : List UInt8} (h : BuAt w v l wr) (hb : Below wr.heap.size wr wx) : BuAt w v l wx := ⟨h.bu.below hb, h.below.trans (hb.mono h.below.size)⟩
theorem buAt_write {w wr : World} {v : Value} {l m : List UInt8} (h : BuAt w v l wr) (hl : l.length + m.length ≤ 140737488355328) : Calls Try.prog 45 #[.pointer (some ⟨w.heap.size, 0, none⟩), .string (mk m)] wr fun e w' => e = .returned (.tuple #[.int .i64 (mk m).size, .nilIface]) ∧ ∃ v', BuAt w v' (l ++ m) w' ∧ Chg (fun x => x = w.heap.size ∨ v.ownBlock = some x) wr w' :=
  (writeString_bu blkOk_plain' h.bu (mk m) (by rw [mk_size]; exact hl) h.below.size).mono fun e w' ⟨h1, v', h2, h3⟩ => ⟨h1, v', ⟨h2, h.below.trans (h3.below h.below.size (fun x hx => by
    rcases hx with rfl | hx
    · exact Nat.le_refl _
    · exact (h.bu.row_lt x hx).1))⟩, h3⟩
def EnsRel (w : World) (l : List Me) (i : Value) (wr : World) : Prop := ∃ k : Nat, k ≤ l.length ∧ i = .int .i64 (k : Int) ∧ ∃ v, BuAt w v (eI l.length ++ eEs (l.take k)) wr
set_option maxHeartbeats 8000000 in
theorem entries_any {w : World} {v : Value} {l : List Me} (hv : RAt enTy w v l) (hin : ∀ e ∈ l, i64b e.idx ∧ i64b e.term ∧ i64b e.kind ∧ e.dt.size ≤ 4000000) (hl : l.length ≤ 8) :
    Calls Try.prog 24 #[v] w (StrPost w (eI l.length ++ eEs l)) := by
  obtain ⟨ao, cap, rfl, hat⟩ := ents_at hv
  have HAt := hid hat
  have HIn := hid hin
  have hl0 := eI_len (n := (l.length : Int)) ⟨by omega, by omega⟩
  have hle := eEs_len l hin
  obtain ⟨wB, hwB⟩ : ∃ wB, w.alloc (.cells #[.pointer none, .slice none 0 0] 69) = wB := ⟨_, rfl⟩
  have hB0 : BuAt w (.slice none 0 0) [] wB := by rw [← hwB]; exact ⟨Bu.fresh _ _, (Below.refl _ _).alloc (Nat.le_refl _) _⟩
  have HI0 : Hid (Calls Try.prog 37 #[.slice (some ⟨wB.heap.size, 0, none⟩) 1 1] (wB.alloc (.cells #[.int .i64 (l.length : Int)] 3)) fun e w' => e = .returned (.string (mk (eI l.length))) ∧ BuAt w (.slice none 0 0) [] w') := hid ((pInts_lit [(l.length : Int)] wB _ 1 rfl rfl (by intro n hn; simp at hn; subst hn; exact ⟨by omega, by omega⟩) (by omega)).mono fun e w' h => ⟨by rw [h.1]; simp [encs, eI], hB0.later h.2⟩)
  have HW0 : Hid (∀ wx, BuAt w (.slice none 0 0) [] wx → Calls Try.prog 45 #[.pointer (some ⟨w.heap.size, 0, none⟩), .string (mk (eI l.length))] wx fun e w' => e = .returned (.tuple #[.int .i64 (mk (eI l.length)).size, .nilIface]) ∧ EnsRel w l (.int .i64 0) w') := hid (fun wx h => (buAt_write h (m := eI l.length) (by simp; omega)).mono fun e w' ⟨k1, v', k2, _⟩ => ⟨k1, 0, Nat.zero_le _, rfl, v', by simpa [eEs] using k2⟩)
  have HLe : Hid (∀ k, (eEs (l.take k)).length ≤ 32000320) := hid (fun k => by
    have h := eEs_len (l.take k) (fun y hy => hin y (List.mem_of_mem_take hy))
    have := List.length_take_le k l
    have := List.length_take_le' k l
    omega)
  have HL0 := hid hl0
  clear hat hv hin hl0 hle hB0
  obtain ⟨s0, hs0⟩ : ∃ s, mk (eI (l.length : Int)) = s := ⟨_, rfl⟩
  rw [hs0] at HI0 HW0
  clear hs0
  go_enter Try.func24, Try.ntmps24
  go_wp2_with (first
    | (go_at_call 37; (with_reducible refine HI0.out.mono ?_); rintro e w1 ⟨rfl, h1⟩; have HB1 := hid h1; clear h1)
    | (go_at_call 45; (with_reducible refine (HW0.out _ HB1.out).mono ?_); rintro e w2 ⟨rfl, h2⟩; have HB2 := hid h2; clear h2))
  go_loopw [13] (EnsRel w l) (fun i _ => l.length - (intOf i).toNat)
  case atStart => exact HB2.out
  case round =>
    clear HB1 HB2 HI0 HW0
    obtain ⟨k, hk, rfl, v, hbu⟩ := hrel
    by_cases hkl : k < l.length
    · have hkI : (k : Int) < (l.length : Int) := by omega
      obtain ⟨x, hx⟩ : ∃ x, l[k] = x := ⟨_, rfl⟩
      have hxk : l[k]? = some x := by rw [List.getElem?_eq_getElem hkl, hx]
      obtain ⟨sb, so, rfl, hcs⟩ := HAt.out k x hxk
      obtain ⟨c0, c1, c2, c3⟩ := hcs _ hbu.below
      obtain ⟨hx1, hx2, hx3, hx4⟩ := HIn.out x (List.mem_of_getElem? hxk)
      have hbw : Below wr.heap.size wr (wr.alloc (.cells #[.int .i64 x.idx, .int .i64 x.term, .int .i64 x.kind, .string x.dt] 49)) := (Below.refl _ _).alloc (Nat.le_refl _) _
      obtain ⟨wE, hwE⟩ : ∃ wE, wr.alloc (.cells #[.int .i64 x.idx, .int .i64 x.term, .int .i64 x.kind, .string x.dt] 49) = wE := ⟨_, rfl⟩
      have obx : own wE wr.heap.size #[.int .i64 x.idx, .int .i64 x.term, .int .i64 x.kind, .string x.dt] 49 := by rw [← hwE]; exact own.new wr _ _
      rw [hwE] at hbw
      have hbuE := hbu.later hbw
      have hI3 : ∀ n ∈ [x.idx, x.term, x.kind], i64b n := by intro n hn; simp at hn; rcases hn with rfl | rfl | rfl <;> assumption
      have HI1 : Hid (Calls Try.prog 37 #[.slice (some ⟨wE.heap.size, 0, none⟩) 3 3] (wE.alloc (.cells #[.int .i64 x.idx, .int .i64 x.term, .int .i64 x.kind] 3)) fun e w' => e = .returned (.string (mk (encs [x.idx, x.term, x.kind]))) ∧ Below wE.heap.size wE w') := hid (pInts_lit [x.idx, x.term, x.kind] wE _ 3 rfl rfl hI3 (by omega))
      have hlen3 := encs_len _ hI3
      have hlt4 := txt_len hx4
      have HB1 : Hid (∀ wx, Below wE.heap.size wE wx → Below w.heap.size w wx) := hid (fun wx h => (hbuE.later h).below)
      have HW1 : Hid (∀ wx, Below wE.heap.size wE wx → Calls Try.prog 45 #[.pointer (some ⟨w.heap.size, 0, none⟩), .string (mk (encs [x.idx, x.term, x.kind]))] wx fun e w' => e = .returned (.tuple #[.int .i64 (mk (encs [x.idx, x.term, x.kind])).size, .nilIface]) ∧ w'.cell? ⟨wr.heap.size, 3, none⟩ = some (.string x.dt) ∧ Hid (∃ v', BuAt w v' (eI l.length ++ eEs (l.take k) ++ encs [x.idx, x.term, x.kind]) w')) := hid (fun wx h => (buAt_write (hbuE.later h) (m := encs [x.idx, x.term, x.kind]) (by rw [List.length_append]; have := HLe.out k; have := HL0.out; simp at hlen3; omega)).mono fun e w' ⟨q1, v', q2, q3⟩ => ⟨q1, (((obx.same (h.block _ obx.lt)).chg q3 (by
        rintro (e | e)
        · have := hbu.bu.lt; omega
        · have := (hbu.bu.row_lt _ e).2; omega)).cell 3).trans rfl, hid ⟨v', q2⟩⟩)
      have HW2 : Hid (∀ w0 v', BuAt w v' (eI l.length ++ eEs (l.take k) ++ encs [x.idx, x.term, x.kind]) w0 → ∀ wx, Below w0.heap.size w0 wx → Calls Try.prog 45 #[.pointer (some ⟨w.heap.size, 0, none⟩), .string (mk (txt x.dt.data.toList))] wx fun e w' => e = .returned (.tuple #[.int .i64 (mk (txt x.dt.data.toList)).size, .nilIface]) ∧ Hid (EnsRel w l (.int .i64 ((k + 1 : Nat) : Int)) w')) := hid (fun w0 v' h0 wx h => (buAt_write (h0.later h) (m := txt x.dt.data.toList) (by rw [List.length_append, List.length_append]; have := HLe.out k; have := HL0.out; simp at hlen3; omega)).mono fun e w' ⟨q1, v2, q2, _⟩ => ⟨q1, hid ⟨k + 1, by omega, rfl, v2, by
        rw [List.take_add_one, hxk]
        simp only [eEs, List.flatMap_append, Option.toList_some, List.flatMap_cons, List.flatMap_nil, List.append_nil] at q2 ⊢
        rw [eE_is, ← List.append_assoc, ← List.append_assoc]
        exact q2⟩⟩)
      have HT : Hid (∀ w0, Calls Try.prog 26 #[.slice (some ⟨w0.heap.size, 0, none⟩) 1 1] (w0.alloc (.cells #[.string x.dt] 9)) fun e w' => e = .returned (.string (mk (txt x.dt.data.toList))) ∧ Below w0.heap.size w0 w') := hid (fun w0 => pText_any x.dt w0 _ rfl hx4)
      have o0 := (obx.cell 0).trans (rfl : #[Value.int .i64 x.idx, Value.int .i64 x.term, Value.int .i64 x.kind, Value.string x.dt][0]? = some (Value.int .i64 x.idx))
      have o1 := (obx.cell 1).trans (rfl : #[Value.int .i64 x.idx, Value.int .i64 x.term, Value.int .i64 x.kind, Value.string x.dt][1]? = some (Value.int .i64 x.term))
      have o2 := (obx.cell 2).trans (rfl : #[Value.int .i64 x.idx, Value.int .i64 x.term, Value.int .i64 x.kind, Value.string x.dt][2]? = some (Value.int .i64 x.kind))
      clear hx hxk hcs hbu hbuE obx hbw hx1 hx2 hx3 hx4 hI3 hlen3 hlt4
      generalize mk (encs [x.idx, x.term, x.kind]) = S1 at *
      generalize mk (txt x.dt.data.toList) = S2 at *
      go_wp2_with (first
        | (go_at_call 37; (with_reducible refine HI1.out.mono ?_); rintro e w1 ⟨rfl, h1⟩; have HQ1 := hid h1; clear h1)
        | (go_at_call 26; (with_reducible refine (HT.out _).mono ?_); rintro e w3 ⟨rfl, h3⟩; have HQ3 := hid h3; clear h3)
        | (go_at_call 45; (with_reducible refine (HW1.out _ HQ1.out).mono ?_); rintro e w2 ⟨rfl, p3, h2⟩; obtain ⟨v', h2'⟩ := h2.out; have HQ2 := hid h2'; clear h2 h2')
        | (go_at_call 45; (with_reducible refine (HW2.out _ _ HQ2.out _ HQ3.out).mono ?_); rintro e w4 ⟨rfl, HQ4⟩))
      go_roundw
      case rel => exact HQ4.out
      case measure => simp [intOf]; omega
    · obtain rfl : k = l.length := by omega
      rw [List.take_length] at hbu
      have HS := hid (string_any w.heap.size w.heap.size (eI l.length ++ eEs l) wr hbu.bu.is hbu.below.size)
      have HB := hid hbu.below
      clear hbu
      obtain ⟨r, hr⟩ : ∃ r, eI (l.length : Int) ++ eEs l = r := ⟨_, rfl⟩
      rw [hr] at HS
      have HR := hid hr
      clear hr
      go_wp2_with (go_at_call 46; (with_reducible refine HS.out.mono ?_); rintro e w1 ⟨rfl, hb1⟩)
      go_ret
      exact ⟨by rw [HR.out]; rfl, HB.out.trans hb1⟩
end Go.Proofs.Ytppjojjejabaeaa
