import Derived.Test.YtbidglefddmjhaaGreatDoorMq5J
import Derived.Test.YtbidglefddmjhaaGreatDoorMq6J
import Derived.Deep.RegionHeld3
/-
  LAYER 3 (wal), THE DOCUMENT's ANSWER: a record of the hard state, its frame; bytes laid; Open of a new disk.
-/
namespace Go.Proofs.YtbidglefddmjhaaGreatDoor
open Go.RowKit Go.Maps
set_option linter.unusedVariables false
set_option maxRecDepth 100000

theorem refIs_lt {w : World} {S : Nat → Prop} {r : Nat} {s : Dk} (h : RefIs w S r s) : ∀ b, S b → b < w.heap.size := by obtain ⟨v, h⟩ := h; exact h.lt
theorem refPost_then {w w1 w2 : World} {S : Nat → Prop} {a : Nat} {r1 r2 : Dk × Int} {e1 e2 : Ending} (hlt : ∀ b, S b → b < w.heap.size) (h1 : RefPost w S a r1 e1 w1) (h2 : RefPost w1 (grow S w w1) a r2 e2 w2) : RefPost w S a r2 e2 w2 := by
  obtain ⟨-, d1, c1⟩ := h1
  obtain ⟨he, ⟨v, d2⟩, c2⟩ := h2
  refine ⟨he, ⟨v, d2.widen (fun b hb => ?_) (grow_lt hlt (by have := c1.size; have := c2.size; omega))⟩, c1.trans c2 (fun b hb => hb.imp id (fun e => e.1))⟩
  rcases hb with (hb | hb) | hb
  · exact .inl hb
  · exact .inr ⟨hb.1, by have := c2.size; omega⟩
  · exact .inr ⟨by have := c1.size; omega, hb.2⟩
set_option maxHeartbeats 4000000 in
theorem lay_any {w : World} {S : Nat → Prop} {q r : Nat} {s : Dk} (h : RefIs w S r s) (hq : q < w.heap.size ∧ ¬ S q ∧ w.cell? ⟨q, 0, none⟩ = some (.pointer (some ⟨r, 0, none⟩))) (n d : ByteArray) (hn : n.size ≤ maxLen) (hd : d.size ≤ 140737488355328) :
    Calls Tryz.prog 78 #[.pointer (some ⟨q, 0, none⟩), .string n, .string d] w (RefPost w S r (wrL s n.data.toList d.data.toList)) := by
  have c0 := hq.2.2
  have HL := hid (refIs_lt h)
  have HA := hid (show Calls Tryz.prog 28 #[.pointer (some ⟨r, 0, none⟩), .string n, .string d] w (RefPost w S r (app s n.data.toList d.data.toList)) from by obtain ⟨v, h⟩ := h; exact refAppend_any h n d hn hd)
  have HP := hid (fun w1 (hc : Chg S w w1) => (show w1.cell? ⟨q, 0, none⟩ = some (.pointer (some ⟨r, 0, none⟩)) from (World.cell?_of_block (hc.block q hq.1 hq.2.1)).trans c0))
  have hsy : ∀ (x : Dk × Int) w1, RefIs w1 (grow S w w1) r x.1 → Calls Tryz.prog 85 #[.pointer (some ⟨r, 0, none⟩), .string n] w1 (RefPost w1 (grow S w w1) r (syn x.1 n.data.toList)) := fun x w1 h1 => by obtain ⟨v, h1⟩ := h1; exact refSync_any h1 n
  have HS := hid hsy
  unfold wrL
  clear h hq hsy
  generalize app s n.data.toList d.data.toList = x at *
  obtain ⟨s1, k⟩ := x
  by_cases hk : k = 0
  · subst hk
    rw [if_pos rfl]
    have HS1 := hid (fun w1 h1 => HS.out (s1, 0) w1 h1)
    clear HS
    simp only at HS1
    generalize syn s1 n.data.toList = r2 at *
    go_enter Tryz.func78, Tryz.ntmps78
    go_wp2_with (first
      | (go_at_call 28; (with_reducible refine HA.out.mono ?_); rintro e w1 hq; have HQ := hid hq; have hk1 := HP.out _ hq.2.2; have HS2 := hid (HS1.out w1 hq.2.1); obtain ⟨rfl, -, -⟩ := hq)
      | (go_at_call 85; (with_reducible refine HS2.out.mono ?_); rintro e w2 hq2; have HQ2 := hid hq2; obtain ⟨rfl, -, -⟩ := hq2))
    go_ret
    exact refPost_then HL.out HQ.out HQ2.out
  · rw [if_neg hk]
    clear HS
    go_enter Tryz.func78, Tryz.ntmps78
    go_wp2_with (go_at_call 28; (with_reducible refine HA.out.mono ?_); rintro e w1 hq; have HQ := hid hq; have hk1 := HP.out _ hq.2.2; obtain ⟨rfl, -, -⟩ := hq)
    go_ret
    exact HQ.out

/-- A record's cells (the document's). -/
def dcells (k : Int) (h : Hd) (e : En) : Array Value := #[.int .i64 k, .int .i64 h.term, .int .i64 h.vote, .int .i64 e.idx, .int .i64 e.term, .int .i64 e.kind, .string (mk e.data)]
set_option maxHeartbeats 8000000 in
theorem payHard_any (h : Hd) (x : En) (ht : I64 h.term) (hv : I64 h.vote) (w : World) :
    Calls Tryz.prog 119 #[.agg (dcells 1 h x)] w fun e w' => e = .returned (.string (mk (payL (.hard h)))) ∧ Below w.heap.size w w' := by
  have hb0 : Below w.heap.size w (w.alloc (.cells (dcells 1 h x) 128)) := (Below.refl _ _).alloc (Nat.le_refl _) _
  have hbx := own.new w (dcells 1 h x) 128
  have HK := hid (fun wx (hx : Below (w.heap.size + 1) (w.alloc (.cells (dcells 1 h x) 128)) wx) => (show (wx.cell? ⟨w.heap.size, 1, none⟩ = some (.int .i64 h.term) ∧ wx.cell? ⟨w.heap.size, 2, none⟩ = some (.int .i64 h.vote)) ∧ Below (w.heap.size + 1) (w.alloc (.cells (dcells 1 h x) 128)) wx from by
    have h1 := hbx.same (hx.block _ (by omega))
    exact ⟨⟨(h1.cell 1).trans rfl, (h1.cell 2).trans rfl⟩, hx⟩))
  have hI1 := fun wx => refInt_any 1 wx (by omega) (by omega)
  have hI2 := fun wx => refInt_any h.term wx ht.1 ht.2
  have hI3 := fun wx => refInt_any h.vote wx hv.1 hv.2
  have l1 := enc_length (nat64_lt (n := (1 : Int)) (by omega) (by omega))
  have l2 := enc_length (nat64_lt ht.1 ht.2)
  have l3 := enc_length (nat64_lt hv.1 hv.2)
  have e1 : mk (enc (nat64 1)) ++ mk (enc (nat64 h.term)) = mk (enc (nat64 1) ++ enc (nat64 h.term)) := mk_append _ _
  have e2 : mk (enc (nat64 1) ++ enc (nat64 h.term)) ++ mk (enc (nat64 h.vote)) = mk (payL (.hard h)) := by rw [mk_append]; simp [payL, encs]
  have s1 : (mk (enc (nat64 1))).size ≤ 10 := by rw [mk_size]; exact l1
  have s2 : (mk (enc (nat64 h.term))).size ≤ 10 := by rw [mk_size]; exact l2
  have s3 : (mk (enc (nat64 h.vote))).size ≤ 10 := by rw [mk_size]; exact l3
  have s4 : (mk (enc (nat64 1) ++ enc (nat64 h.term))).size ≤ 20 := by rw [mk_size, List.length_append]; omega
  change ∀ wx, Calls _ _ _ _ fun e w' => e = .returned (.string (mk (enc (nat64 1)))) ∧ _ at hI1
  change ∀ wx, Calls _ _ _ _ fun e w' => e = .returned (.string (mk (enc (nat64 h.term)))) ∧ _ at hI2
  change ∀ wx, Calls _ _ _ _ fun e w' => e = .returned (.string (mk (enc (nat64 h.vote)))) ∧ _ at hI3
  have HI1 := hid hI1
  have HI2 := hid hI2
  have HI3 := hid hI3
  have a1 : ¬ 9223372036854775807 < (mk (enc (nat64 1))).size + (mk (enc (nat64 h.term))).size := by omega
  have a2 : ¬ 9223372036854775807 < (mk (enc (nat64 1) ++ enc (nat64 h.term))).size + (mk (enc (nat64 h.vote))).size := by omega
  have HB0 := hid hb0
  clear hbx hI1 hI2 hI3 l1 l2 l3 hb0
  unfold dcells at *
  generalize mk (payL (.hard h)) = R at *
  generalize mk (enc (nat64 1) ++ enc (nat64 h.term)) = R2 at *
  generalize mk (enc (nat64 1)) = Q1 at *
  generalize mk (enc (nat64 h.term)) = Q2 at *
  generalize mk (enc (nat64 h.vote)) = Q3 at *
  generalize h.term = t at *
  generalize h.vote = u at *
  have hbk : Below (w.heap.size + 1) (w.alloc (.cells #[.int .i64 1, .int .i64 t, .int .i64 u, .int .i64 x.idx, .int .i64 x.term, .int .i64 x.kind, .string (mk x.data)] 128)) (w.alloc (.cells #[.int .i64 1, .int .i64 t, .int .i64 u, .int .i64 x.idx, .int .i64 x.term, .int .i64 x.kind, .string (mk x.data)] 128)).drew := Below.drew (Below.refl _ _)
  have HZ0 := hid (show (w.alloc (.cells #[.int .i64 1, .int .i64 t, .int .i64 u, .int .i64 x.idx, .int .i64 x.term, .int .i64 x.kind, .string (mk x.data)] 128)).heap.size = w.heap.size + 1 by simp)
  go_enter Tryz.func119, Tryz.ntmps119
  go_wp2
  go_region_held3 (fun wx => (wx.cell? ⟨w.heap.size, 1, none⟩ = some (.int .i64 t) ∧ wx.cell? ⟨w.heap.size, 2, none⟩ = some (.int .i64 u)) ∧ Below (w.heap.size + 1) (w.alloc (.cells #[.int .i64 1, .int .i64 t, .int .i64 u, .int .i64 x.idx, .int .i64 x.term, .int .i64 x.kind, .string (mk x.data)] 128)) wx)
    (with_reducible exact HK.out _ hbk)
    (first
      | (go_at_call 143; first | ((with_reducible refine (HI2.out _).mono ?_); rintro e w2 ⟨rfl, hb2⟩) | ((with_reducible refine (HI3.out _).mono ?_); rintro e w2 ⟨rfl, hb2⟩) | ((with_reducible refine (HI1.out _).mono ?_); rintro e w2 ⟨rfl, hb2⟩)); have hbk := hbk.trans (hb2.mono (by have := hbk.size; rw [HZ0.out] at this; exact this)))
  all_goals
    go_wp2
    go_ret
    exact ⟨rfl, HB0.out.trans (hbk.mono (by omega))⟩
set_option maxHeartbeats 4000000 in
theorem refFrameHard_any (h : Hd) (x : En) (ht : I64 h.term) (hv : I64 h.vote) (w : World) :
    Calls Tryz.prog 79 #[.agg (dcells 1 h x)] w fun e w' => e = .returned (.string (mk (rcL (.hard h)))) ∧ Below w.heap.size w w' := by
  have HP := hid (fun wx => payHard_any h x ht hv wx)
  have hpl : (mk (payL (.hard h))).size ≤ 65536 := by
    rw [mk_size]
    have := encs_length [1, h.term, h.vote] (by intro m hm; simp at hm; rcases hm with rfl | rfl | rfl; exact ⟨by omega, by omega⟩; exact ht; exact hv)
    simp only [payL]
    simp at this
    omega
  have HF := hid (fun wx => refFrame_any (mk (payL (.hard h))) wx hpl)
  rw [mk_data] at HF
  change Hid (∀ wx, Calls _ _ _ _ fun e w' => e = .returned (.tuple #[.string (mk (rcL (.hard h))), .int .i64 0]) ∧ _) at HF
  have hb0 : Below w.heap.size w (w.alloc (.cells (dcells 1 h x) 128)) := (Below.refl _ _).alloc (Nat.le_refl _) _
  have HB0 := hid hb0
  clear hb0 hpl
  unfold dcells at *
  generalize mk (payL (.hard h)) = P at *
  generalize mk (rcL (.hard h)) = R at *
  go_enter Tryz.func79, Tryz.ntmps79
  go_wp2_with (first
    | (go_at_call 119; (with_reducible refine (HP.out _).mono ?_); rintro e w1 ⟨rfl, hb1⟩)
    | (go_at_call 118; (with_reducible refine (HF.out _).mono ?_); rintro e w2 ⟨rfl, hb2⟩))
  go_ret
  exact ⟨rfl, (HB0.out.trans (hb1.mono HB0.out.size)).trans (hb2.mono (by have := HB0.out.size; have := hb1.size; omega))⟩
end Go.Proofs.YtbidglefddmjhaaGreatDoor

