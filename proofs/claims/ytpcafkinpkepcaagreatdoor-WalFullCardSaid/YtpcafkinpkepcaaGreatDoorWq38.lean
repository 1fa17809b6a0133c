import Derived.Test.YtpcafkinpkepcaaGreatDoorWq31
import Derived.Test.YtpcafkinpkepcaaGreatDoorWq32
import Derived.Test.YtpcafkinpkepcaaGreatDoorWq37
import Derived.Deep.RegionHeld3
/-
  Wq38: WlRef0, WlLast, in one text.
-/
/-
  LAYER 3 (wal), THE DOCUMENT's ANSWER: a record of the hard state, its frame; bytes laid; Open of a new disk.
-/
namespace Go.Proofs.YtpcafkinpkepcaaGreatDoor
open Go.RowKit Go.Maps
set_option linter.unusedVariables false
set_option maxRecDepth 100000

theorem refIs_lt {w : World} {S : Nat → Prop} {r : Nat} {s : Dk} (h : RefIs w S r s) : ∀ b, S b → b < w.heap.size := by obtain ⟨v, h⟩ := h; exact h.lt
theorem refPost_then {w w1 w2 : World} {S : Nat → Prop} {a : Nat} {r1 r2 : Dk × Int} {e1 e2 : Ending} (hlt : ∀ b, S b → b < w.heap.size) (h1 : RefPost w S a r1 e1 w1) (h2 : RefPost w1 (grow S w w1) a r2 e2 w2) : RefPost w S a r2 e2 w2 := by
  obtain ⟨-, d1, c1⟩ := h1
  obtain ⟨he, ⟨v, d2⟩, c2⟩ := h2
  refine ⟨he, ⟨v, d2.widen (fun b hb => ?_) (grow_lt hlt (by have := c1.size; have := c2.size; omega))⟩, c1.trans c2 (fun b hb => hb.imp id (fun e => e.1))⟩
  rcases hb with (hb | hb) | hb
  · exact .inl hb
  · exact .inr ⟨hb.1, by have := c2.size; omega⟩
  · exact .inr ⟨by have := c1.size; omega, hb.2⟩
set_option maxHeartbeats 4000000 in
theorem lay_any {w : World} {S : Nat → Prop} {q r : Nat} {s : Dk} (h : RefIs w S r s) (hq : q < w.heap.size ∧ ¬ S q ∧ w.cell? ⟨q, 0, none⟩ = some (.pointer (some ⟨r, 0, none⟩))) (n d : ByteArray) (hn : n.size ≤ maxLen) (hd : d.size ≤ 140737488355328) :
    Calls Tryz.prog 82 #[.pointer (some ⟨q, 0, none⟩), .string n, .string d] w (RefPost w S r (wrL s n.data.toList d.data.toList)) := by
  have c0 := hq.2.2
  have HL := hid (refIs_lt h)
  have HA := hid (show Calls Tryz.prog 31 #[.pointer (some ⟨r, 0, none⟩), .string n, .string d] w (RefPost w S r (app s n.data.toList d.data.toList)) from by obtain ⟨v, h⟩ := h; exact refAppend_any h n d hn hd)
  have HP := hid (fun w1 (hc : Chg S w w1) => (show w1.cell? ⟨q, 0, none⟩ = some (.pointer (some ⟨r, 0, none⟩)) from (World.cell?_of_block (hc.block q hq.1 hq.2.1)).trans c0))
  have hsy : ∀ (x : Dk × Int) w1, RefIs w1 (grow S w w1) r x.1 → Calls Tryz.prog 89 #[.pointer (some ⟨r, 0, none⟩), .string n] w1 (RefPost w1 (grow S w w1) r (syn x.1 n.data.toList)) := fun x w1 h1 => by obtain ⟨v, h1⟩ := h1; exact refSync_any h1 n
  have HS := hid hsy
  unfold wrL
  clear h hq hsy
  generalize app s n.data.toList d.data.toList = x at *
  obtain ⟨s1, k⟩ := x
  by_cases hk : k = 0
  · subst hk
    rw [if_pos rfl]
    have HS1 := hid (fun w1 h1 => HS.out (s1, 0) w1 h1)
    clear HS
    simp only at HS1
    generalize syn s1 n.data.toList = r2 at *
    go_enter Tryz.func82, Tryz.ntmps82
    go_wp2_with (first
      | (go_at_call 31; (with_reducible refine HA.out.mono ?_); rintro e w1 hq; have HQ := hid hq; have hk1 := HP.out _ hq.2.2; have HS2 := hid (HS1.out w1 hq.2.1); obtain ⟨rfl, -, -⟩ := hq)
      | (go_at_call 89; (with_reducible refine HS2.out.mono ?_); rintro e w2 hq2; have HQ2 := hid hq2; obtain ⟨rfl, -, -⟩ := hq2))
    go_ret
    exact refPost_then HL.out HQ.out HQ2.out
  · rw [if_neg hk]
    clear HS
    go_enter Tryz.func82, Tryz.ntmps82
    go_wp2_with (go_at_call 31; (with_reducible refine HA.out.mono ?_); rintro e w1 hq; have HQ := hid hq; have hk1 := HP.out _ hq.2.2; obtain ⟨rfl, -, -⟩ := hq)
    go_ret
    exact HQ.out

/-- A record's cells (the document's). -/
def dcells (k : Int) (h : Hd) (e : En) : Array Value := #[.int .i64 k, .int .i64 h.term, .int .i64 h.vote, .int .i64 e.idx, .int .i64 e.term, .int .i64 e.kind, .string (mk e.data)]
set_option maxHeartbeats 8000000 in
theorem payHard_any (h : Hd) (x : En) (ht : I64 h.term) (hv : I64 h.vote) (w : World) :
    Calls Tryz.prog 123 #[.agg (dcells 1 h x)] w fun e w' => e = .returned (.string (mk (payL (.hard h)))) ∧ Below w.heap.size w w' := by
  have hb0 : Below w.heap.size w (w.alloc (.cells (dcells 1 h x) 131)) := (Below.refl _ _).alloc (Nat.le_refl _) _
  have hbx := own.new w (dcells 1 h x) 131
  have HK := hid (fun wx (hx : Below (w.heap.size + 1) (w.alloc (.cells (dcells 1 h x) 131)) wx) => (show (wx.cell? ⟨w.heap.size, 1, none⟩ = some (.int .i64 h.term) ∧ wx.cell? ⟨w.heap.size, 2, none⟩ = some (.int .i64 h.vote)) ∧ Below (w.heap.size + 1) (w.alloc (.cells (dcells 1 h x) 131)) wx from by
    have h1 := hbx.same (hx.block _ (by omega))
    exact ⟨⟨(h1.cell 1).trans rfl, (h1.cell 2).trans rfl⟩, hx⟩))
  have hI1 := fun wx => refInt_any 1 wx (by omega) (by omega)
  have hI2 := fun wx => refInt_any h.term wx ht.1 ht.2
  have hI3 := fun wx => refInt_any h.vote wx hv.1 hv.2
  have l1 := enc_length (nat64_lt (n := (1 : Int)) (by omega) (by omega))
  have l2 := enc_length (nat64_lt ht.1 ht.2)
  have l3 := enc_length (nat64_lt hv.1 hv.2)
  have e1 : mk (enc (nat64 1)) ++ mk (enc (nat64 h.term)) = mk (enc (nat64 1) ++ enc (nat64 h.term)) := mk_append _ _
  have e2 : mk (enc (nat64 1) ++ enc (nat64 h.term)) ++ mk (enc (nat64 h.vote)) = mk (payL (.hard h)) := by rw [mk_append]; simp [payL, encs]
  have s1 : (mk (enc (nat64 1))).size ≤ 10 := by rw [mk_size]; exact l1
  have s2 : (mk (enc (nat64 h.term))).size ≤ 10 := by rw [mk_size]; exact l2
  have s3 : (mk (enc (nat64 h.vote))).size ≤ 10 := by rw [mk_size]; exact l3
  have s4 : (mk (enc (nat64 1) ++ enc (nat64 h.term))).size ≤ 20 := by rw [mk_size, List.length_append]; omega
  change ∀ wx, Calls _ _ _ _ fun e w' => e = .returned (.string (mk (enc (nat64 1)))) ∧ _ at hI1
  change ∀ wx, Calls _ _ _ _ fun e w' => e = .returned (.string (mk (enc (nat64 h.term)))) ∧ _ at hI2
  change ∀ wx, Calls _ _ _ _ fun e w' => e = .returned (.string (mk (enc (nat64 h.vote)))) ∧ _ at hI3
  have HI1 := hid hI1
  have HI2 := hid hI2
  have HI3 := hid hI3
  have a1 : ¬ 9223372036854775807 < (mk (enc (nat64 1))).size + (mk (enc (nat64 h.term))).size := by omega
  have a2 : ¬ 9223372036854775807 < (mk (enc (nat64 1) ++ enc (nat64 h.term))).size + (mk (enc (nat64 h.vote))).size := by omega
  have HB0 := hid hb0
  clear hbx hI1 hI2 hI3 l1 l2 l3 hb0
  unfold dcells at *
  generalize mk (payL (.hard h)) = R at *
  generalize mk (enc (nat64 1) ++ enc (nat64 h.term)) = R2 at *
  generalize mk (enc (nat64 1)) = Q1 at *
  generalize mk (enc (nat64 h.term)) = Q2 at *
  generalize mk (enc (nat64 h.vote)) = Q3 at *
  generalize h.term = t at *
  generalize h.vote = u at *
  have hbk : Below (w.heap.size + 1) (w.alloc (.cells #[.int .i64 1, .int .i64 t, .int .i64 u, .int .i64 x.idx, .int .i64 x.term, .int .i64 x.kind, .string (mk x.data)] 131)) (w.alloc (.cells #[.int .i64 1, .int .i64 t, .int .i64 u, .int .i64 x.idx, .int .i64 x.term, .int .i64 x.kind, .string (mk x.data)] 131)).drew := Below.drew (Below.refl _ _)
  have HZ0 := hid (show (w.alloc (.cells #[.int .i64 1, .int .i64 t, .int .i64 u, .int .i64 x.idx, .int .i64 x.term, .int .i64 x.kind, .string (mk x.data)] 131)).heap.size = w.heap.size + 1 by simp)
  go_enter Tryz.func123, Tryz.ntmps123
  go_wp2
  go_region_held3 (fun wx => (wx.cell? ⟨w.heap.size, 1, none⟩ = some (.int .i64 t) ∧ wx.cell? ⟨w.heap.size, 2, none⟩ = some (.int .i64 u)) ∧ Below (w.heap.size + 1) (w.alloc (.cells #[.int .i64 1, .int .i64 t, .int .i64 u, .int .i64 x.idx, .int .i64 x.term, .int .i64 x.kind, .string (mk x.data)] 131)) wx)
    (with_reducible exact HK.out _ hbk)
    (first
      | (go_at_call 153; first | ((with_reducible refine (HI2.out _).mono ?_); rintro e w2 ⟨rfl, hb2⟩) | ((with_reducible refine (HI3.out _).mono ?_); rintro e w2 ⟨rfl, hb2⟩) | ((with_reducible refine (HI1.out _).mono ?_); rintro e w2 ⟨rfl, hb2⟩)); have hbk := hbk.trans (hb2.mono (by have := hbk.size; rw [HZ0.out] at this; exact this)))
  all_goals
    go_wp2
    go_ret
    exact ⟨rfl, HB0.out.trans (hbk.mono (by omega))⟩
set_option maxHeartbeats 4000000 in
theorem refFrameHard_any (h : Hd) (x : En) (ht : I64 h.term) (hv : I64 h.vote) (w : World) :
    Calls Tryz.prog 83 #[.agg (dcells 1 h x)] w fun e w' => e = .returned (.string (mk (rcL (.hard h)))) ∧ Below w.heap.size w w' := by
  have HP := hid (fun wx => payHard_any h x ht hv wx)
  have hpl : (mk (payL (.hard h))).size ≤ 65536 := by
    rw [mk_size]
    have := encs_length [1, h.term, h.vote] (by intro m hm; simp at hm; rcases hm with rfl | rfl | rfl; exact ⟨by omega, by omega⟩; exact ht; exact hv)
    simp only [payL]
    simp at this
    omega
  have HF := hid (fun wx => refFrame_any (mk (payL (.hard h))) wx hpl)
  rw [mk_data] at HF
  change Hid (∀ wx, Calls _ _ _ _ fun e w' => e = .returned (.tuple #[.string (mk (rcL (.hard h))), .int .i64 0]) ∧ _) at HF
  have hb0 : Below w.heap.size w (w.alloc (.cells (dcells 1 h x) 131)) := (Below.refl _ _).alloc (Nat.le_refl _) _
  have HB0 := hid hb0
  clear hb0 hpl
  unfold dcells at *
  generalize mk (payL (.hard h)) = P at *
  generalize mk (rcL (.hard h)) = R at *
  go_enter Tryz.func83, Tryz.ntmps83
  go_wp2_with (first
    | (go_at_call 123; (with_reducible refine (HP.out _).mono ?_); rintro e w1 ⟨rfl, hb1⟩)
    | (go_at_call 122; (with_reducible refine (HF.out _).mono ?_); rintro e w2 ⟨rfl, hb2⟩))
  go_ret
  exact ⟨rfl, (HB0.out.trans (hb1.mono HB0.out.size)).trans (hb2.mono (by have := HB0.out.size; have := hb1.size; omega))⟩
end Go.Proofs.YtpcafkinpkepcaaGreatDoor

/-
  LAYER 3 (wal): the segment that is written to.
-/
namespace Go.Proofs.YtpcafkinpkepcaaGreatDoor
open Go.RowKit Go.Maps
set_option linter.unusedVariables false
set_option maxRecDepth 100000

theorem segsL_perm (L : List AF) : (segsL L).Perm ((L.map AF.name).filter isSeg) := List.mergeSort_perm _ _
theorem segsL_in {s : Dk} (h : s.Ok) : (segsL s.L).length ≤ 40 ∧ ∀ x ∈ segsL s.L, x.length ≤ 24 ∧ isSeg x = true ∧ x ∈ s.L.map AF.name := by
  have hn := names_in h
  refine ⟨by rw [(segsL_perm s.L).length_eq]; have := List.length_filter_le isSeg (s.L.map AF.name); omega, fun x hx => ?_⟩
  have h1 := List.mem_filter.1 ((segsL_perm s.L).mem_iff.1 hx)
  exact ⟨hn.2 x h1.1, h1.2, h1.1⟩
theorem AtDisk.below {w w' : World} {S : Nat → Prop} {p a : Nat} (h : AtDisk w S p a) (hb : Below w.heap.size w w') : AtDisk w' S p a := by
  obtain ⟨h1, h2, h3⟩ := h
  have hs := hb.size
  refine ⟨h1, by omega, ?_⟩
  rw [← h3]
  unfold World.cell?
  rw [hb.block p h2]
theorem rd_len {s : Dk} (h : s.Ok) (n : List UInt8) : (rd s n).1.length ≤ 10000000 := by
  have h1 := h.room
  have h2 := h.most
  unfold rd
  split
  · simp
  · split
    · simp
    · rename_i f hf
      have := sz_mem (fndK_some hf).1
      show f.data.length ≤ _
      omega
/-- The last segment: its name, how many bytes it has, and whether it can be read. -/
def lastL (s : Dk) : List UInt8 × Nat × Int := match (segsL s.L).getLast? with | none => (segN 1, 0, 0) | some n => (n, (rd s n).1.length, (rd s n).2)
def LastPost (w : World) (r : List UInt8 × Nat × Int) (e : Ending) (w' : World) : Prop := e = .returned (.tuple #[.string (mk r.1), .int .i64 (r.2.1 : Int), .int .i64 r.2.2]) ∧ Below w.heap.size w w'
set_option maxHeartbeats 4000000 in
theorem last_any {w : World} {S : Nat → Prop} {p a : Nat} {s : Dk} {B0 : Nat} (h : DiskIs w S a s) (hp : AtDisk w S p a) (hg : Glob w B0) (hB0 : B0 ≤ w.heap.size) :
    Calls Tryz.prog 117 #[.pointer (some ⟨p, 0, none⟩)] w (LastPost w (lastL s)) := by
  have hok : s.Ok := by obtain ⟨mb, F, h⟩ := h; exact h.ok
  have hin := segsL_in hok
  have HS := hid (segments_any h hp.2.2 hg hB0)
  cases hl : segsL s.L with
  | nil =>
    have HN := hid (fun w1 (hb : Below w.heap.size w w1) => segName_any 1 w1 (hg.below hb hB0) ⟨by omega, by omega⟩)
    have hz : lastL s = (segN 1, 0, 0) := by unfold lastL; rw [hl]; rfl
    rw [hz]
    have HL := hid hl
    clear h hp hg hok hin hz
    go_enter Tryz.func117, Tryz.ntmps117
    go_wp2_with (first
      | (go_at_call 22; (with_reducible refine HS.out.mono ?_); rintro e w1 ⟨v1, rfl, hv1, hb1⟩; rw [HL.out] at hv1; obtain ⟨a1, cap1, rfl⟩ := names_slice hv1; clear hv1)
      | (go_at_call 79; (with_reducible refine (HN.out _ hb1).mono ?_); rintro e w2 ⟨rfl, hb2⟩))
    go_ret3
    exact ⟨rfl, hb1.trans (hb2.mono hb1.size)⟩
  | cons n0 t0 =>
    obtain ⟨m, n, hm, hn⟩ : ∃ m n, (segsL s.L).length = m + 1 ∧ (segsL s.L)[m]? = some n := ⟨t0.length, (segsL s.L)[t0.length]'(by rw [hl]; simp), by rw [hl]; rfl, List.getElem?_eq_getElem _⟩
    have hmI : (m : Int) ≤ 40 := by have := hin.1; omega
    have hlast : (segsL s.L).getLast? = some n := by rw [List.getLast?_eq_getElem?, ← hn, hm, Nat.add_sub_cancel]
    have hnm := (hin.2 n (List.mem_of_getElem? hn)).1
    have hz : lastL s = (n, (rd s n).1.length, (rd s n).2) := by unfold lastL; rw [hlast]
    rw [hz]
    have hcell : ∀ w1 v1, NamesAt w1 w.heap.size v1 (segsL s.L) → ∃ g cap, v1 = .slice (some ⟨g, 0, none⟩) (m + 1) cap ∧ w1.cell? ⟨g, m, none⟩ = some (.string (mk n)) := fun w1 v1 hv => by
      obtain ⟨g, cap, h1, _, _, _, h2⟩ := names_cell hv (j := m) (by omega)
      rw [(List.getElem?_eq_some_iff.1 hn).2] at h2
      exact ⟨g, cap, by rw [h1, hm], h2⟩
    have HCell := hid hcell
    have HR := hid (fun w1 (hb : Below w.heap.size w w1) => show Calls Tryz.prog 69 #[.pointer (some ⟨a, 0, none⟩), .string (mk n)] w1 (fun e w' => e = .returned (ReadV (rd s n)) ∧ w1 = w') by
      obtain ⟨mb, F, h1⟩ := h.below hb
      exact read_any h1 (mk n) (by rw [mk_size]; unfold maxLen; omega))
    have HP := hid (fun w1 (hb : Below w.heap.size w w1) => (hp.below hb).2.2)
    have hlen := rd_len hok n
    have hW1 : IntKind.i64.wrap ((m : Int) + 1 - 1) = (m : Int) := by rw [show (m : Int) + 1 - 1 = m by omega]; exact IntWalk.i64_in _ (by omega)
    unfold LastPost
    simp only
    rw [← mk_size] at hlen ⊢
    unfold ReadV at HR
    clear h hp hg hok hin hz hl hm hlast hnm hcell hn
    unfold SegsPost at HS
    generalize (rd s n).2 = k at *
    generalize mk (rd s n).1 = d at *
    generalize segsL s.L = L at *
    have hW2 : IntKind.i64.wrap (d.size : Int) = (d.size : Int) := IntWalk.i64_in _ (by omega)
    go_enter Tryz.func117, Tryz.ntmps117
    go_wp2_with (first
      | (go_at_call 22; (with_reducible refine HS.out.mono ?_); rintro e w1 ⟨v1, rfl, hv1, hb1⟩; obtain ⟨g1, cap1, rfl, k1⟩ := HCell.out _ _ hv1; have hp1 := HP.out _ hb1; clear hv1)
      | (go_at_call 69; (with_reducible refine (HR.out _ hb1).mono ?_); rintro e w2 ⟨rfl, rfl⟩))
    go_ret3
    exact ⟨rfl, hb1⟩
end Go.Proofs.YtpcafkinpkepcaaGreatDoor

