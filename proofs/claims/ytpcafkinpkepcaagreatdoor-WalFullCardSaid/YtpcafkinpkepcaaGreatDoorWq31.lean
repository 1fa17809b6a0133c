import Derived.Test.YtpcafkinpkepcaaGreatDoorWq30
import Derived.Test.YtpcafkinpkepcaaGreatDoorWq28
import Derived.Test.YtpcafkinpkepcaaGreatDoorWq12
/-
  Wq31: WlF, WlIo, WlA, in one text.
-/
/-
  LAYER 3 (wal): Segments.
-/
namespace Go.Proofs.YtpcafkinpkepcaaGreatDoor
open Go.RowKit Go.Maps
set_option linter.unusedVariables false
set_option maxRecDepth 100000

/-- The names of a disk's segments, by rising numbers. -/
def segsL (L : List AF) : List (List UInt8) := sortSeg ((L.map AF.name).filter isSeg)
def SegsPost (w : World) (s : Dk) (e : Ending) (w' : World) : Prop := ∃ v, e = .returned v ∧ NamesAt w' w.heap.size v (segsL s.L) ∧ Below w.heap.size w w'
theorem names_in {s : Dk} (h : s.Ok) : (s.L.map AF.name).length ≤ 40 ∧ ∀ x ∈ s.L.map AF.name, x.length ≤ 24 := by
  refine ⟨by simpa using h.many, fun x hx => ?_⟩
  obtain ⟨f, hf, rfl⟩ := List.mem_map.1 hx
  have h1 := h.names f hf
  unfold isName at h1
  simp at h1
  omega
set_option maxHeartbeats 2000000 in
theorem segments_any {w : World} {S : Nat → Prop} {a p : Nat} {s : Dk} {B0 : Nat} (hd : DiskIs w S a s) (hc : w.cell? ⟨p, 0, none⟩ = some (.pointer (some ⟨a, 0, none⟩))) (hg : Glob w B0) (hB0 : B0 ≤ w.heap.size) :
    Calls Tryz.prog 22 #[.pointer (some ⟨p, 0, none⟩)] w (SegsPost w s) := by
  obtain ⟨mb, F, hr⟩ := hd
  have hn := names_in hr.ok
  have HL := hid (list_any hr)
  have HD := hid (fun v1 w1 (hv : NamesAt w1 w.heap.size v1 (s.L.map AF.name)) (hb : Below w.heap.size w w1) => deleteFunc_any v1 (s.L.map AF.name) w1 (hg.below hb hB0) hB0 hb.size hv (fun x hx => by have := hn.2 x hx; omega) (by omega))
  have hfl : ((s.L.map AF.name).filter isSeg).length ≤ 1000 := by have := List.length_filter_le isSeg (s.L.map AF.name); omega
  have HS := hid (fun v2 w2 (hv : NamesAt w2 w.heap.size v2 ((s.L.map AF.name).filter isSeg)) (hb : Below w.heap.size w w2) => sortFunc_any v2 ((s.L.map AF.name).filter isSeg) (fun x hx => (List.mem_filter.1 hx).2) w2 (hg.below hb hB0) hB0 hb.size hv hfl)
  have hfin : ∀ v w2 w3, NamesAt w3 w.heap.size v (segsL s.L) → Below w.heap.size w w2 → (∀ b, v.ownBlock = some b → w.heap.size ≤ b) → Chg (fun b => v.ownBlock = some b) w2 w3 → SegsPost w s (.returned v) w3 := fun v w2 w3 h1 h2 h3 h4 => ⟨v, rfl, h1, h2.trans (h4.below h2.size h3)⟩
  have HF := hid hfin
  unfold segsL at HF
  clear hr hg hn hfl hfin
  generalize (s.L.map AF.name) = names at *
  go_enter Tryz.func22, Tryz.ntmps22
  go_wp2_with (first
    | (go_at_call 64; (with_reducible refine HL.out.mono ?_); rintro e w1 ⟨v1, rfl, hv1, hb1⟩; have HV1 := hid hv1; obtain ⟨a1, cap1, rfl⟩ := names_slice hv1; clear hv1)
    | (go_at_call 63; (with_reducible refine (HD.out _ _ HV1.out hb1).mono ?_); rintro e w2 ⟨v2, rfl, hv2, hc2, hs2⟩; have HV2 := hid hv2; have HC2 := hid hc2; have HS2 := hid hs2; obtain ⟨a2, cap2, rfl⟩ := names_slice hv2; clear hv2 hc2 hs2; have hb2 := hb1.trans (HC2.out.below hb1.size (fun b hb => (World.ownsRow.lt HV1.out b hb).1)))
    | (go_at_call 66; (with_reducible refine (HS.out _ _ HV2.out hb2).mono ?_); rintro e w3 ⟨rfl, hv3, hc3⟩; have HV3 := hid hv3; have HC3 := hid hc3; clear hv3 hc3))
  go_ret
  exact HF.out _ _ _ HV3.out hb2 (fun b hb => (World.ownsRow.lt HV2.out b hb).1) HC3.out
end Go.Proofs.YtpcafkinpkepcaaGreatDoor

/-
  LAYER 3 (wal): a log's calls of its disk.
-/
namespace Go.Proofs.YtpcafkinpkepcaaGreatDoor
open Go.RowKit Go.Maps
set_option linter.unusedVariables false
set_option maxRecDepth 100000

def wrL (s : Dk) (n d : List UInt8) : Dk × Int := if (app s n d).2 = 0 then syn (app s n d).1 n else app s n d
def trL (s : Dk) (n : List UInt8) (k : Int) : Dk × Int := if (trunc s n k).2 = 0 then syn (trunc s n k).1 n else trunc s n k
theorem diskIs_lt {w : World} {S : Nat → Prop} {a : Nat} {s : Dk} (h : DiskIs w S a s) : ∀ b, S b → b < w.heap.size := by obtain ⟨mb, F, h⟩ := h; exact h.lt
theorem opPost_then {w w1 w2 : World} {S : Nat → Prop} {a : Nat} {r1 r2 : Dk × Int} {e1 e2 : Ending} (hlt : ∀ b, S b → b < w.heap.size) (h1 : OpPost w S a r1 e1 w1) (h2 : OpPost w1 (grow S w w1) a r2 e2 w2) : OpPost w S a r2 e2 w2 := by
  obtain ⟨-, d1, c1⟩ := h1
  obtain ⟨he, ⟨mb, F, d2⟩, c2⟩ := h2
  exact ⟨he, ⟨mb, F, d2.after (S1 := grow S w w1) (fun b hb => hb) hlt c1.size c2.size⟩, c1.after (fun b hb => hb) c2⟩
/-- The first cell of a block beside the disk. -/
def AtDisk (w : World) (S : Nat → Prop) (p a : Nat) : Prop := ¬ S p ∧ p < w.heap.size ∧ w.cell? ⟨p, 0, none⟩ = some (.pointer (some ⟨a, 0, none⟩))
theorem AtDisk.chg {w w' : World} {S : Nat → Prop} {p a : Nat} (h : AtDisk w S p a) (hc : Chg S w w') : AtDisk w' (grow S w w') p a := by
  obtain ⟨h1, h2, h3⟩ := h
  have hs := hc.size
  refine ⟨fun e => e.elim h1 (fun e => by omega), by omega, ?_⟩
  rw [← h3]
  unfold World.cell?
  rw [hc.block p h2 h1]
set_option maxHeartbeats 4000000 in
theorem write_any {w : World} {S : Nat → Prop} {p a : Nat} {s : Dk} (h : DiskIs w S a s) (hp : AtDisk w S p a) (n d : ByteArray) (hn : n.size ≤ maxLen) (hd : d.size ≤ 140737488355328) :
    Calls Tryz.prog 78 #[.pointer (some ⟨p, 0, none⟩), .string n, .string d] w (OpPost w S a (wrL s n.data.toList d.data.toList)) := by
  have c0 := hp.2.2
  have HA := hid (append_any h n d hn hd)
  have HP := hid hp
  have HL := hid (diskIs_lt h)
  have hsy : ∀ (r : Dk × Int) w1, DiskIs w1 (grow S w w1) a r.1 → Calls Tryz.prog 133 #[.pointer (some ⟨a, 0, none⟩), .string n] w1 (OpPost w1 (grow S w w1) a (syn r.1 n.data.toList)) := fun r w1 h1 => sync_any h1 n hn
  have HS := hid hsy
  unfold wrL
  clear h hp hsy
  generalize app s n.data.toList d.data.toList = r at *
  obtain ⟨s1, k⟩ := r
  by_cases hk : k = 0
  · subst hk
    rw [if_pos rfl]
    have HS1 := hid (fun w1 h1 => HS.out (s1, 0) w1 h1)
    clear HS
    simp only at HS1
    generalize syn s1 n.data.toList = r2 at *
    go_enter Tryz.func78, Tryz.ntmps78
    go_wp2_with (first
      | (go_at_call 30; (with_reducible refine HA.out.mono ?_); rintro e w1 hq; have HQ := hid hq; have hk1 := (HP.out.chg hq.2.2).2.2; have HS2 := hid (HS1.out w1 hq.2.1); obtain ⟨rfl, -, -⟩ := hq)
      | (go_at_call 133; (with_reducible refine HS2.out.mono ?_); rintro e w2 hq2; have HQ2 := hid hq2; obtain ⟨rfl, -, -⟩ := hq2))
    go_ret
    exact opPost_then HL.out HQ.out HQ2.out
  · rw [if_neg hk]
    clear HS
    go_enter Tryz.func78, Tryz.ntmps78
    go_wp2_with (go_at_call 30; (with_reducible refine HA.out.mono ?_); rintro e w1 hq; have HQ := hid hq; have hk1 := (HP.out.chg hq.2.2).2.2; obtain ⟨rfl, -, -⟩ := hq)
    go_ret
    exact HQ.out
set_option maxHeartbeats 4000000 in
theorem trim_any {w : World} {S : Nat → Prop} {p a : Nat} {s : Dk} (h : DiskIs w S a s) (hp : AtDisk w S p a) (n : ByteArray) (hn : n.size ≤ maxLen) (i : Int) :
    Calls Tryz.prog 138 #[.pointer (some ⟨p, 0, none⟩), .string n, .int .i64 i] w (OpPost w S a (trL s n.data.toList i)) := by
  have c0 := hp.2.2
  have HA := hid (trunc_any h n hn i)
  have HP := hid hp
  have HL := hid (diskIs_lt h)
  have hsy : ∀ (r : Dk × Int) w1, DiskIs w1 (grow S w w1) a r.1 → Calls Tryz.prog 133 #[.pointer (some ⟨a, 0, none⟩), .string n] w1 (OpPost w1 (grow S w w1) a (syn r.1 n.data.toList)) := fun r w1 h1 => sync_any h1 n hn
  have HS := hid hsy
  unfold trL
  clear h hp hsy
  generalize trunc s n.data.toList i = r at *
  obtain ⟨s1, k⟩ := r
  by_cases hk : k = 0
  · subst hk
    rw [if_pos rfl]
    have HS1 := hid (fun w1 h1 => HS.out (s1, 0) w1 h1)
    clear HS
    simp only at HS1
    generalize syn s1 n.data.toList = r2 at *
    go_enter Tryz.func138, Tryz.ntmps138
    go_wp2_with (first
      | (go_at_call 188; (with_reducible refine HA.out.mono ?_); rintro e w1 hq; have HQ := hid hq; have hk1 := (HP.out.chg hq.2.2).2.2; have HS2 := hid (HS1.out w1 hq.2.1); obtain ⟨rfl, -, -⟩ := hq)
      | (go_at_call 133; (with_reducible refine HS2.out.mono ?_); rintro e w2 hq2; have HQ2 := hid hq2; obtain ⟨rfl, -, -⟩ := hq2))
    go_ret
    exact opPost_then HL.out HQ.out HQ2.out
  · rw [if_neg hk]
    clear HS
    go_enter Tryz.func138, Tryz.ntmps138
    go_wp2_with (go_at_call 188; (with_reducible refine HA.out.mono ?_); rintro e w1 hq; have HQ := hid hq; have hk1 := (HP.out.chg hq.2.2).2.2; obtain ⟨rfl, -, -⟩ := hq)
    go_ret
    exact HQ.out
/-- Whether a log's disk is dead. -/
theorem walDead_any {w : World} {S : Nat → Prop} {p a : Nat} {s : Dk} (h : DiskIs w S a s) (hp : AtDisk w S p a) :
    Calls Tryz.prog 94 #[.pointer (some ⟨p, 0, none⟩)] w fun e w' => e = .returned (.bool s.dead) ∧ w = w' := by
  have c0 := hp.2.2
  obtain ⟨mb, F, h⟩ := h
  have HD := hid (dead_any h)
  clear h hp
  go_enter Tryz.func94, Tryz.ntmps94
  go_wp2_with (go_at_call 20; (with_reducible refine HD.out.mono ?_); rintro e w1 ⟨rfl, rfl⟩)
  go_ret
  exact ⟨rfl, rfl⟩
end Go.Proofs.YtpcafkinpkepcaaGreatDoor

/-
  LAYER 3 (wal): records written: what fits, records of numbers.
-/
namespace Go.Proofs.YtpcafkinpkepcaaGreatDoor
open Go.RowKit
set_option linter.unusedVariables false
set_option maxRecDepth 100000

theorem hardFits_any (h : Hd) (w : World) : Calls Tryz.prog 98 #[.agg #[.int .i64 h.term, .int .i64 h.vote]] w fun e w' => e = .returned (.bool (hdB h)) ∧ Below w.heap.size w w' := by
  have hb : Below w.heap.size w (w.alloc (.cells #[.int .i64 h.term, .int .i64 h.vote] 50)) := Below.alloc (Below.refl _ _) (Nat.le_refl _) _
  have hq : hdB h = decide (0 ≤ h.term ∧ 0 ≤ h.vote) := rfl
  obtain ⟨t, v⟩ := h
  simp only at hb hq ⊢
  by_cases h1 : 0 ≤ t
  · by_cases h2 : 0 ≤ v
    · rw [hq, show decide (0 ≤ t ∧ 0 ≤ v) = true by simp; omega]
      go_enter Tryz.func98, Tryz.ntmps98
      go_wp2
      go_ret
      exact ⟨rfl, hb⟩
    · rw [hq, show decide (0 ≤ t ∧ 0 ≤ v) = false by simp; omega]
      go_enter Tryz.func98, Tryz.ntmps98
      go_wp2
      go_ret
      exact ⟨rfl, hb⟩
  · rw [hq, show decide (0 ≤ t ∧ 0 ≤ v) = false by simp; omega]
    go_enter Tryz.func98, Tryz.ntmps98
    go_wp2
    go_ret
    exact ⟨rfl, hb⟩
theorem entryFits_any (x : En) (d : ByteArray) (w : World) : Calls Tryz.prog 143 #[.agg #[.int .i64 x.idx, .int .i64 x.term, .int .i64 x.kind, .string d]] w fun e w' => e = .returned (.bool (entB x)) ∧ Below w.heap.size w w' := by
  have hb : Below w.heap.size w (w.alloc (.cells #[.int .i64 x.idx, .int .i64 x.term, .int .i64 x.kind, .string d] 78)) := Below.alloc (Below.refl _ _) (Nat.le_refl _) _
  have hq : entB x = decide (1 ≤ x.idx ∧ 0 ≤ x.term ∧ 1 ≤ x.kind ∧ x.kind ≤ 3) := rfl
  obtain ⟨i, t, k, dd⟩ := x
  simp only at hb hq ⊢
  by_cases h1 : 1 ≤ i
  · by_cases h2 : 0 ≤ t
    · by_cases h3 : 1 ≤ k
      · by_cases h4 : k ≤ 3
        · rw [hq, show decide (1 ≤ i ∧ 0 ≤ t ∧ 1 ≤ k ∧ k ≤ 3) = true by simp; omega]
          clear hq
          go_enter Tryz.func143, Tryz.ntmps143
          go_wp2
          go_ret
          exact ⟨rfl, hb⟩
        · rw [hq, show decide (1 ≤ i ∧ 0 ≤ t ∧ 1 ≤ k ∧ k ≤ 3) = false by simp; omega]
          clear hq
          go_enter Tryz.func143, Tryz.ntmps143
          go_wp2
          go_ret
          exact ⟨rfl, hb⟩
      · rw [hq, show decide (1 ≤ i ∧ 0 ≤ t ∧ 1 ≤ k ∧ k ≤ 3) = false by simp; omega]
        clear hq
        go_enter Tryz.func143, Tryz.ntmps143
        go_wp2
        go_ret
        exact ⟨rfl, hb⟩
    · rw [hq, show decide (1 ≤ i ∧ 0 ≤ t ∧ 1 ≤ k ∧ k ≤ 3) = false by simp; omega]
      clear hq
      go_enter Tryz.func143, Tryz.ntmps143
      go_wp2
      go_ret
      exact ⟨rfl, hb⟩
  · rw [hq, show decide (1 ≤ i ∧ 0 ≤ t ∧ 1 ≤ k ∧ k ≤ 3) = false by simp; omega]
    clear hq
    go_enter Tryz.func143, Tryz.ntmps143
    go_wp2
    go_ret
    exact ⟨rfl, hb⟩

theorem numbers_any (v : Value) (xs : List Int) (w : World) {B : Nat} (hg : Glob w B) (hB : B ≤ w.heap.size) (hv : IntsAt w w.heap.size v xs) (hx : ∀ n ∈ xs, I64 n) (hl : xs.length ≤ 100) :
    Calls Tryz.prog 135 #[v] w fun e w' => e = .returned (.string (mk (frameL (encs xs)))) ∧ Below w.heap.size w w' := by
  have hel := encs_length xs hx
  have HI := hid (int_any v xs w hv hx (by omega))
  have HF := hid (fun wx (hb : Below w.heap.size w wx) => frame_any (mk (encs xs)) wx (by rw [mk_size]; omega) (hg.below hb hB).steps (by have := hg.hsteps; have := hb.size; omega))
  rw [mk_data] at HF
  obtain ⟨a, cap, rfl, _⟩ := hv
  change Hid (Calls _ _ _ w fun e w' => e = .returned (.string (mk (encs xs))) ∧ _) at HI
  clear hg hel
  generalize mk (encs xs) = p at *
  generalize mk (frameL (encs xs)) = f at *
  go_enter Tryz.func135, Tryz.ntmps135
  go_wp2_with (first | (go_at_call 145; (with_reducible refine HI.out.mono ?_); rintro e w1 ⟨rfl, hb⟩) | (go_at_call 144; (with_reducible refine (HF.out _ hb).mono ?_); rintro e w2 ⟨rfl, hb2⟩))
  go_ret
  exact ⟨rfl, hb.trans (hb2.mono hb.size)⟩
/-- A slice of ints that a call has just laid. -/
theorem ints_new (w : World) (xs : List Int) (T : TypeId) : IntsAt (w.alloc (.cells (xs.map (Value.int .i64)).toArray T)) (w.alloc (.cells (xs.map (Value.int .i64)).toArray T)).heap.size (.slice (some ⟨w.heap.size, 0, none⟩) xs.length xs.length) xs := by
  refine ⟨_, _, rfl, fun _ => ⟨w.heap.size, 0, rfl, by simp, fun j x hj => ?_⟩⟩
  rw [Nat.zero_add, own.cell (own.new w _ T) j]
  simp [hj]
theorem hardRec_any (h : Hd) (w : World) {B : Nat} (hg : Glob w B) (hB : B ≤ w.heap.size) (ht : I64 h.term) (hv : I64 h.vote) :
    Calls Tryz.prog 80 #[.agg #[.int .i64 h.term, .int .i64 h.vote]] w fun e w' => e = .returned (.string (mk (rcL (.hard h)))) ∧ Below w.heap.size w w' := by
  have hb1 : Below w.heap.size w (w.alloc (.cells #[.int .i64 h.term, .int .i64 h.vote] 50)) := Below.alloc (Below.refl _ _) (Nat.le_refl _) _
  have hb2 : Below w.heap.size w ((w.alloc (.cells #[.int .i64 h.term, .int .i64 h.vote] 50)).alloc (.cells #[.int .i64 1, .int .i64 h.term, .int .i64 h.vote] 3)) := Below.alloc hb1 (by simp) _
  have HN := hid (numbers_any _ [1, h.term, h.vote] _ (hg.below hb2 hB) (by have := hb2.size; omega) (ints_new (w.alloc (.cells #[.int .i64 h.term, .int .i64 h.vote] 50)) [1, h.term, h.vote] 3) (by simp [ht, hv]; exact ⟨by omega, by omega⟩) (by simp))
  have hz : (w.alloc (.cells #[.int .i64 h.term, .int .i64 h.vote] 50)).heap.size = w.heap.size + 1 := by simp
  rw [hz] at HN
  change Hid (Calls _ _ #[.slice (some ⟨w.heap.size + 1, 0, none⟩) 3 3] ((w.alloc (.cells #[.int .i64 h.term, .int .i64 h.vote] 50)).alloc (.cells #[.int .i64 1, .int .i64 h.term, .int .i64 h.vote] 3)) fun e w' => e = .returned (.string (mk (rcL (.hard h)))) ∧ _) at HN
  clear hg ht hv hz
  generalize mk (rcL (.hard h)) = f at *
  obtain ⟨t, v⟩ := h
  simp only at *
  go_enter Tryz.func80, Tryz.ntmps80
  go_wp2_with (go_at_call 135; (with_reducible refine HN.out.mono ?_); rintro e w1 ⟨rfl, hb⟩)
  go_ret
  exact ⟨rfl, hb2.trans (hb.mono hb2.size)⟩
theorem resetRec_any (w : World) {B : Nat} (hg : Glob w B) (hB : B ≤ w.heap.size) :
    Calls Tryz.prog 118 #[] w fun e w' => e = .returned (.string (mk (rcL .reset))) ∧ Below w.heap.size w w' := by
  have hb2 : Below w.heap.size w (w.alloc (.cells #[.int .i64 3] 3)) := Below.alloc (Below.refl _ _) (Nat.le_refl _) _
  have HN := hid (numbers_any _ [3] _ (hg.below hb2 hB) (by have := hb2.size; omega) (ints_new w [3] 3) (by simp; exact ⟨by omega, by omega⟩) (by simp))
  change Hid (Calls _ _ #[.slice (some ⟨w.heap.size, 0, none⟩) 1 1] (w.alloc (.cells #[.int .i64 3] 3)) fun e w' => e = .returned (.string (mk (rcL .reset))) ∧ _) at HN
  clear hg
  generalize mk (rcL .reset) = f at *
  go_enter Tryz.func118, Tryz.ntmps118
  go_wp2_with (go_at_call 135; (with_reducible refine HN.out.mono ?_); rintro e w1 ⟨rfl, hb⟩)
  go_ret
  exact ⟨rfl, hb2.trans (hb.mono hb2.size)⟩
end Go.Proofs.YtpcafkinpkepcaaGreatDoor

