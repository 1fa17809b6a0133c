import Derived.Test.YtbidglefddmjhaaGreatDoorMq4J
import Derived.Test.YtbidglefddmjhaaGreatDoorWlFJ
import Derived.Test.YtbidglefddmjhaaGreatDoorMq0J
import Derived.Deep.RegionWith
/-
  LAYER 3 (wal): a log's calls of its disk.
-/
namespace Go.Proofs.YtbidglefddmjhaaGreatDoor
open Go.RowKit Go.Maps
set_option linter.unusedVariables false
set_option maxRecDepth 100000

def wrL (s : Dk) (n d : List UInt8) : Dk × Int := if (app s n d).2 = 0 then syn (app s n d).1 n else app s n d
def trL (s : Dk) (n : List UInt8) (k : Int) : Dk × Int := if (trunc s n k).2 = 0 then syn (trunc s n k).1 n else trunc s n k
theorem diskIs_lt {w : World} {S : Nat → Prop} {a : Nat} {s : Dk} (h : DiskIs w S a s) : ∀ b, S b → b < w.heap.size := by obtain ⟨mb, F, h⟩ := h; exact h.lt
theorem opPost_then {w w1 w2 : World} {S : Nat → Prop} {a : Nat} {r1 r2 : Dk × Int} {e1 e2 : Ending} (hlt : ∀ b, S b → b < w.heap.size) (h1 : OpPost w S a r1 e1 w1) (h2 : OpPost w1 (grow S w w1) a r2 e2 w2) : OpPost w S a r2 e2 w2 := by
  obtain ⟨-, d1, c1⟩ := h1
  obtain ⟨he, ⟨mb, F, d2⟩, c2⟩ := h2
  exact ⟨he, ⟨mb, F, d2.after (S1 := grow S w w1) (fun b hb => hb) hlt c1.size c2.size⟩, c1.after (fun b hb => hb) c2⟩
/-- The first cell of a block beside the disk. -/
def AtDisk (w : World) (S : Nat → Prop) (p a : Nat) : Prop := ¬ S p ∧ p < w.heap.size ∧ w.cell? ⟨p, 0, none⟩ = some (.pointer (some ⟨a, 0, none⟩))
theorem AtDisk.chg {w w' : World} {S : Nat → Prop} {p a : Nat} (h : AtDisk w S p a) (hc : Chg S w w') : AtDisk w' (grow S w w') p a := by
  obtain ⟨h1, h2, h3⟩ := h
  have hs := hc.size
  refine ⟨fun e => e.elim h1 (fun e => by omega), by omega, ?_⟩
  rw [← h3]
  unfold World.cell?
  rw [hc.block p h2 h1]
set_option maxHeartbeats 4000000 in
theorem write_any {w : World} {S : Nat → Prop} {p a : Nat} {s : Dk} (h : DiskIs w S a s) (hp : AtDisk w S p a) (n d : ByteArray) (hn : n.size ≤ maxLen) (hd : d.size ≤ 140737488355328) :
    Calls Tryz.prog 74 #[.pointer (some ⟨p, 0, none⟩), .string n, .string d] w (OpPost w S a (wrL s n.data.toList d.data.toList)) := by
  have c0 := hp.2.2
  have HA := hid (append_any h n d hn hd)
  have HP := hid hp
  have HL := hid (diskIs_lt h)
  have hsy : ∀ (r : Dk × Int) w1, DiskIs w1 (grow S w w1) a r.1 → Calls Tryz.prog 129 #[.pointer (some ⟨a, 0, none⟩), .string n] w1 (OpPost w1 (grow S w w1) a (syn r.1 n.data.toList)) := fun r w1 h1 => sync_any h1 n hn
  have HS := hid hsy
  unfold wrL
  clear h hp hsy
  generalize app s n.data.toList d.data.toList = r at *
  obtain ⟨s1, k⟩ := r
  by_cases hk : k = 0
  · subst hk
    rw [if_pos rfl]
    have HS1 := hid (fun w1 h1 => HS.out (s1, 0) w1 h1)
    clear HS
    simp only at HS1
    generalize syn s1 n.data.toList = r2 at *
    go_enter Tryz.func74, Tryz.ntmps74
    go_wp2_with (first
      | (go_at_call 27; (with_reducible refine HA.out.mono ?_); rintro e w1 hq; have HQ := hid hq; have hk1 := (HP.out.chg hq.2.2).2.2; have HS2 := hid (HS1.out w1 hq.2.1); obtain ⟨rfl, -, -⟩ := hq)
      | (go_at_call 129; (with_reducible refine HS2.out.mono ?_); rintro e w2 hq2; have HQ2 := hid hq2; obtain ⟨rfl, -, -⟩ := hq2))
    go_ret
    exact opPost_then HL.out HQ.out HQ2.out
  · rw [if_neg hk]
    clear HS
    go_enter Tryz.func74, Tryz.ntmps74
    go_wp2_with (go_at_call 27; (with_reducible refine HA.out.mono ?_); rintro e w1 hq; have HQ := hid hq; have hk1 := (HP.out.chg hq.2.2).2.2; obtain ⟨rfl, -, -⟩ := hq)
    go_ret
    exact HQ.out
set_option maxHeartbeats 4000000 in
theorem trim_any {w : World} {S : Nat → Prop} {p a : Nat} {s : Dk} (h : DiskIs w S a s) (hp : AtDisk w S p a) (n : ByteArray) (hn : n.size ≤ maxLen) (i : Int) :
    Calls Tryz.prog 134 #[.pointer (some ⟨p, 0, none⟩), .string n, .int .i64 i] w (OpPost w S a (trL s n.data.toList i)) := by
  have c0 := hp.2.2
  have HA := hid (trunc_any h n hn i)
  have HP := hid hp
  have HL := hid (diskIs_lt h)
  have hsy : ∀ (r : Dk × Int) w1, DiskIs w1 (grow S w w1) a r.1 → Calls Tryz.prog 129 #[.pointer (some ⟨a, 0, none⟩), .string n] w1 (OpPost w1 (grow S w w1) a (syn r.1 n.data.toList)) := fun r w1 h1 => sync_any h1 n hn
  have HS := hid hsy
  unfold trL
  clear h hp hsy
  generalize trunc s n.data.toList i = r at *
  obtain ⟨s1, k⟩ := r
  by_cases hk : k = 0
  · subst hk
    rw [if_pos rfl]
    have HS1 := hid (fun w1 h1 => HS.out (s1, 0) w1 h1)
    clear HS
    simp only at HS1
    generalize syn s1 n.data.toList = r2 at *
    go_enter Tryz.func134, Tryz.ntmps134
    go_wp2_with (first
      | (go_at_call 184; (with_reducible refine HA.out.mono ?_); rintro e w1 hq; have HQ := hid hq; have hk1 := (HP.out.chg hq.2.2).2.2; have HS2 := hid (HS1.out w1 hq.2.1); obtain ⟨rfl, -, -⟩ := hq)
      | (go_at_call 129; (with_reducible refine HS2.out.mono ?_); rintro e w2 hq2; have HQ2 := hid hq2; obtain ⟨rfl, -, -⟩ := hq2))
    go_ret
    exact opPost_then HL.out HQ.out HQ2.out
  · rw [if_neg hk]
    clear HS
    go_enter Tryz.func134, Tryz.ntmps134
    go_wp2_with (go_at_call 184; (with_reducible refine HA.out.mono ?_); rintro e w1 hq; have HQ := hid hq; have hk1 := (HP.out.chg hq.2.2).2.2; obtain ⟨rfl, -, -⟩ := hq)
    go_ret
    exact HQ.out
/-- Whether a log's disk is dead. -/
theorem walDead_any {w : World} {S : Nat → Prop} {p a : Nat} {s : Dk} (h : DiskIs w S a s) (hp : AtDisk w S p a) :
    Calls Tryz.prog 108 #[.pointer (some ⟨p, 0, none⟩)] w fun e w' => e = .returned (.bool s.dead) ∧ w = w' := by
  have c0 := hp.2.2
  obtain ⟨mb, F, h⟩ := h
  have HD := hid (dead_any h)
  clear h hp
  go_enter Tryz.func108, Tryz.ntmps108
  go_wp2_with (go_at_call 17; (with_reducible refine HD.out.mono ?_); rintro e w1 ⟨rfl, rfl⟩)
  go_ret
  exact ⟨rfl, rfl⟩
end Go.Proofs.YtbidglefddmjhaaGreatDoor

/-
  LAYER 3 (wal): records written: what fits, records of numbers.
-/
namespace Go.Proofs.YtbidglefddmjhaaGreatDoor
open Go.RowKit
set_option linter.unusedVariables false
set_option maxRecDepth 100000

theorem hardFits_any (h : Hd) (w : World) : Calls Tryz.prog 107 #[.agg #[.int .i64 h.term, .int .i64 h.vote]] w fun e w' => e = .returned (.bool (hdB h)) ∧ Below w.heap.size w w' := by
  have hb : Below w.heap.size w (w.alloc (.cells #[.int .i64 h.term, .int .i64 h.vote] 50)) := Below.alloc (Below.refl _ _) (Nat.le_refl _) _
  have hq : hdB h = decide (0 ≤ h.term ∧ 0 ≤ h.vote) := rfl
  obtain ⟨t, v⟩ := h
  simp only at hb hq ⊢
  by_cases h1 : 0 ≤ t
  · by_cases h2 : 0 ≤ v
    · rw [hq, show decide (0 ≤ t ∧ 0 ≤ v) = true by simp; omega]
      go_enter Tryz.func107, Tryz.ntmps107
      go_wp2
      go_ret
      exact ⟨rfl, hb⟩
    · rw [hq, show decide (0 ≤ t ∧ 0 ≤ v) = false by simp; omega]
      go_enter Tryz.func107, Tryz.ntmps107
      go_wp2
      go_ret
      exact ⟨rfl, hb⟩
  · rw [hq, show decide (0 ≤ t ∧ 0 ≤ v) = false by simp; omega]
    go_enter Tryz.func107, Tryz.ntmps107
    go_wp2
    go_ret
    exact ⟨rfl, hb⟩
theorem entryFits_any (x : En) (d : ByteArray) (w : World) : Calls Tryz.prog 154 #[.agg #[.int .i64 x.idx, .int .i64 x.term, .int .i64 x.kind, .string d]] w fun e w' => e = .returned (.bool (entB x)) ∧ Below w.heap.size w w' := by
  have hb : Below w.heap.size w (w.alloc (.cells #[.int .i64 x.idx, .int .i64 x.term, .int .i64 x.kind, .string d] 95)) := Below.alloc (Below.refl _ _) (Nat.le_refl _) _
  have hq : entB x = decide (1 ≤ x.idx ∧ 0 ≤ x.term ∧ 1 ≤ x.kind ∧ x.kind ≤ 3) := rfl
  obtain ⟨i, t, k, dd⟩ := x
  simp only at hb hq ⊢
  by_cases h1 : 1 ≤ i
  · by_cases h2 : 0 ≤ t
    · by_cases h3 : 1 ≤ k
      · by_cases h4 : k ≤ 3
        · rw [hq, show decide (1 ≤ i ∧ 0 ≤ t ∧ 1 ≤ k ∧ k ≤ 3) = true by simp; omega]
          clear hq
          go_enter Tryz.func154, Tryz.ntmps154
          go_wp2
          go_ret
          exact ⟨rfl, hb⟩
        · rw [hq, show decide (1 ≤ i ∧ 0 ≤ t ∧ 1 ≤ k ∧ k ≤ 3) = false by simp; omega]
          clear hq
          go_enter Tryz.func154, Tryz.ntmps154
          go_wp2
          go_ret
          exact ⟨rfl, hb⟩
      · rw [hq, show decide (1 ≤ i ∧ 0 ≤ t ∧ 1 ≤ k ∧ k ≤ 3) = false by simp; omega]
        clear hq
        go_enter Tryz.func154, Tryz.ntmps154
        go_wp2
        go_ret
        exact ⟨rfl, hb⟩
    · rw [hq, show decide (1 ≤ i ∧ 0 ≤ t ∧ 1 ≤ k ∧ k ≤ 3) = false by simp; omega]
      clear hq
      go_enter Tryz.func154, Tryz.ntmps154
      go_wp2
      go_ret
      exact ⟨rfl, hb⟩
  · rw [hq, show decide (1 ≤ i ∧ 0 ≤ t ∧ 1 ≤ k ∧ k ≤ 3) = false by simp; omega]
    clear hq
    go_enter Tryz.func154, Tryz.ntmps154
    go_wp2
    go_ret
    exact ⟨rfl, hb⟩

theorem numbers_any (v : Value) (xs : List Int) (w : World) {B : Nat} (hg : Glob w B) (hB : B ≤ w.heap.size) (hv : IntsAt w w.heap.size v xs) (hx : ∀ n ∈ xs, I64 n) (hl : xs.length ≤ 100) :
    Calls Tryz.prog 131 #[v] w fun e w' => e = .returned (.string (mk (frameL (encs xs)))) ∧ Below w.heap.size w w' := by
  have hel := encs_length xs hx
  have HI := hid (int_any v xs w hv hx (by omega))
  have HF := hid (fun wx (hb : Below w.heap.size w wx) => frame_any (mk (encs xs)) wx (by rw [mk_size]; omega) (hg.below hb hB).steps (by have := hg.hsteps; have := hb.size; omega))
  rw [mk_data] at HF
  obtain ⟨a, cap, rfl, _⟩ := hv
  change Hid (Calls _ _ _ w fun e w' => e = .returned (.string (mk (encs xs))) ∧ _) at HI
  clear hg hel
  generalize mk (encs xs) = p at *
  generalize mk (frameL (encs xs)) = f at *
  go_enter Tryz.func131, Tryz.ntmps131
  go_wp2_with (first | (go_at_call 156; (with_reducible refine HI.out.mono ?_); rintro e w1 ⟨rfl, hb⟩) | (go_at_call 155; (with_reducible refine (HF.out _ hb).mono ?_); rintro e w2 ⟨rfl, hb2⟩))
  go_ret
  exact ⟨rfl, hb.trans (hb2.mono hb.size)⟩
/-- A slice of ints that a call has just laid. -/
theorem ints_new (w : World) (xs : List Int) (T : TypeId) : IntsAt (w.alloc (.cells (xs.map (Value.int .i64)).toArray T)) (w.alloc (.cells (xs.map (Value.int .i64)).toArray T)).heap.size (.slice (some ⟨w.heap.size, 0, none⟩) xs.length xs.length) xs := by
  refine ⟨_, _, rfl, fun _ => ⟨w.heap.size, 0, rfl, by simp, fun j x hj => ?_⟩⟩
  rw [Nat.zero_add, own.cell (own.new w _ T) j]
  simp [hj]
theorem hardRec_any (h : Hd) (w : World) {B : Nat} (hg : Glob w B) (hB : B ≤ w.heap.size) (ht : I64 h.term) (hv : I64 h.vote) :
    Calls Tryz.prog 76 #[.agg #[.int .i64 h.term, .int .i64 h.vote]] w fun e w' => e = .returned (.string (mk (rcL (.hard h)))) ∧ Below w.heap.size w w' := by
  have hb1 : Below w.heap.size w (w.alloc (.cells #[.int .i64 h.term, .int .i64 h.vote] 50)) := Below.alloc (Below.refl _ _) (Nat.le_refl _) _
  have hb2 : Below w.heap.size w ((w.alloc (.cells #[.int .i64 h.term, .int .i64 h.vote] 50)).alloc (.cells #[.int .i64 1, .int .i64 h.term, .int .i64 h.vote] 3)) := Below.alloc hb1 (by simp) _
  have HN := hid (numbers_any _ [1, h.term, h.vote] _ (hg.below hb2 hB) (by have := hb2.size; omega) (ints_new (w.alloc (.cells #[.int .i64 h.term, .int .i64 h.vote] 50)) [1, h.term, h.vote] 3) (by simp [ht, hv]; exact ⟨by omega, by omega⟩) (by simp))
  have hz : (w.alloc (.cells #[.int .i64 h.term, .int .i64 h.vote] 50)).heap.size = w.heap.size + 1 := by simp
  rw [hz] at HN
  change Hid (Calls _ _ #[.slice (some ⟨w.heap.size + 1, 0, none⟩) 3 3] ((w.alloc (.cells #[.int .i64 h.term, .int .i64 h.vote] 50)).alloc (.cells #[.int .i64 1, .int .i64 h.term, .int .i64 h.vote] 3)) fun e w' => e = .returned (.string (mk (rcL (.hard h)))) ∧ _) at HN
  clear hg ht hv hz
  generalize mk (rcL (.hard h)) = f at *
  obtain ⟨t, v⟩ := h
  simp only at *
  go_enter Tryz.func76, Tryz.ntmps76
  go_wp2_with (go_at_call 131; (with_reducible refine HN.out.mono ?_); rintro e w1 ⟨rfl, hb⟩)
  go_ret
  exact ⟨rfl, hb2.trans (hb.mono hb2.size)⟩
theorem resetRec_any (w : World) {B : Nat} (hg : Glob w B) (hB : B ≤ w.heap.size) :
    Calls Tryz.prog 112 #[] w fun e w' => e = .returned (.string (mk (rcL .reset))) ∧ Below w.heap.size w w' := by
  have hb2 : Below w.heap.size w (w.alloc (.cells #[.int .i64 3] 3)) := Below.alloc (Below.refl _ _) (Nat.le_refl _) _
  have HN := hid (numbers_any _ [3] _ (hg.below hb2 hB) (by have := hb2.size; omega) (ints_new w [3] 3) (by simp; exact ⟨by omega, by omega⟩) (by simp))
  change Hid (Calls _ _ #[.slice (some ⟨w.heap.size, 0, none⟩) 1 1] (w.alloc (.cells #[.int .i64 3] 3)) fun e w' => e = .returned (.string (mk (rcL .reset))) ∧ _) at HN
  clear hg
  generalize mk (rcL .reset) = f at *
  go_enter Tryz.func112, Tryz.ntmps112
  go_wp2_with (go_at_call 131; (with_reducible refine HN.out.mono ?_); rintro e w1 ⟨rfl, hb⟩)
  go_ret
  exact ⟨rfl, hb2.trans (hb.mono hb2.size)⟩
end Go.Proofs.YtbidglefddmjhaaGreatDoor

/-
  LAYER 3 (wal): entryRecords: the records of a row of entries.
-/
namespace Go.Proofs.YtbidglefddmjhaaGreatDoor
open Go.RowKit Go.Maps
set_option linter.unusedVariables false
set_option maxRecDepth 100000

/-- A slice of entries, wherever it lies. -/
def EntsAt (w : World) (v : Value) (L : List En) : Prop :=
  ∃ ao cap, v = .slice ao L.length cap ∧ (L ≠ [] → ∃ g o, ao = some ⟨g, o, none⟩ ∧ g < w.heap.size ∧ ∀ k (hk : k < L.length),
    w.cell? ⟨g, o + k * 4, none⟩ = some (.int .i64 L[k].idx) ∧ w.cell? ⟨g, o + k * 4 + 1, none⟩ = some (.int .i64 L[k].term) ∧ w.cell? ⟨g, o + k * 4 + 2, none⟩ = some (.int .i64 L[k].kind) ∧ w.cell? ⟨g, o + k * 4 + 3, none⟩ = some (.string (mk L[k].data)))
theorem EntRow.ents {w : World} {B : Nat} {v : Value} {L : List En} (h : EntRow w B v L) : EntsAt w v L := by
  obtain ⟨ao, cap, rfl, _, _⟩ := h.slice
  refine ⟨ao, cap, rfl, fun hne => ?_⟩
  obtain ⟨g, rfl, _, hlt, hc, _⟩ := h.at (i := 0) (List.length_pos_iff.2 hne)
  refine ⟨g, 0, rfl, hlt, fun k hk => ?_⟩
  obtain ⟨c0, c1, c2, c3⟩ := hc k hk
  rw [Nat.zero_add]
  exact ⟨c0, c1, c2, c3⟩
theorem EntsAt.same {w w' : World} {v : Value} {L : List En} (h : EntsAt w v L) (hz : w.heap.size ≤ w'.heap.size) (hs : ∀ b, v.ownBlock = some b → w'.heap[b]? = w.heap[b]?) (ho : ∀ g o n c, v = .slice (some ⟨g, o, none⟩) n c → w'.heap[g]? = w.heap[g]?) : EntsAt w' v L := by
  obtain ⟨ao, cap, rfl, hc⟩ := h
  refine ⟨ao, cap, rfl, fun hne => ?_⟩
  obtain ⟨g, o, rfl, hlt, hcc⟩ := hc hne
  have hb := ho g o L.length cap rfl
  refine ⟨g, o, rfl, by omega, fun k hk => ?_⟩
  obtain ⟨c0, c1, c2, c3⟩ := hcc k hk
  have hq : ∀ j, w'.cell? ⟨g, j, none⟩ = w.cell? ⟨g, j, none⟩ := fun j => World.cell?_of_block hb
  exact ⟨(hq _).trans c0, (hq _).trans c1, (hq _).trans c2, (hq _).trans c3⟩
theorem EntsAt.below {w w' : World} {v : Value} {L : List En} (h : EntsAt w v L) (hb : Below w.heap.size w w') : EntsAt w' v L := by
  obtain ⟨ao, cap, rfl, hc⟩ := h
  refine ⟨ao, cap, rfl, fun hne => ?_⟩
  obtain ⟨g, o, rfl, hlt, hcc⟩ := hc hne
  have hz := hb.size
  refine ⟨g, o, rfl, by omega, fun k hk => ?_⟩
  obtain ⟨c0, c1, c2, c3⟩ := hcc k hk
  have hq : ∀ j, w'.cell? ⟨g, j, none⟩ = w.cell? ⟨g, j, none⟩ := fun j => World.cell?_of_block (hb.block g hlt)
  exact ⟨(hq _).trans c0, (hq _).trans c1, (hq _).trans c2, (hq _).trans c3⟩

theorem own_new {w : World} {cs : Array Value} {T : TypeId} {b : Nat} (h : b = w.heap.size) : own (w.alloc (.cells cs T)) b cs T := by rw [h]; exact own.new w cs T
theorem own_alloc {w : World} {cs : Array Value} {T : TypeId} {b : Nat} (o : Obj) (h : own w b cs T) : own (w.alloc o) b cs T := h.same (Below.heap_alloc _ _ _ h.lt)
theorem ints_own {w : World} {b : Nat} {xs : List Int} {T : TypeId} (h : own w b (xs.map (Value.int .i64)).toArray T) (n : Nat) (hn : n = xs.length) : IntsAt w w.heap.size (.slice (some ⟨b, 0, none⟩) n n) xs := by
  subst hn
  refine ⟨_, _, rfl, fun _ => ⟨b, 0, rfl, h.lt, fun j x hj => ?_⟩⟩
  rw [Nat.zero_add, h.cell j]
  simp [hj]
theorem strs_own {w : World} {b : Nat} {d : ByteArray} {T : TypeId} (h : own w b #[.string d] T) : StrsAt w w.heap.size (.slice (some ⟨b, 0, none⟩) 1 1) [d] := by
  refine ⟨_, _, rfl, fun _ => ⟨b, 0, rfl, h.lt, fun j x hj => ?_⟩⟩
  match j, hj with
  | 0, hj => simp at hj; subst hj; rw [Nat.zero_add, h.cell]; rfl
  | j + 1, hj => simp at hj
theorem own_drew {w : World} {cs : Array Value} {T : TypeId} {b : Nat} (h : own w b cs T) : own w.drew b cs T := h
theorem rcsL_snoc (l : List En) (e : En) : rcsL ((l ++ [e]).map .entry) = rcsL (l.map .entry) ++ rcL (.entry e) := by simp [rcsL]
theorem entRec_len {e : En} (hi : e.In) (hd : e.data.length ≤ 60000) : (payL (.entry e)).length ≤ 65536 ∧ (rcL (.entry e)).length ≤ 65544 := by
  have h1 := encs_length [2, e.idx, e.term, e.kind] (by simp; exact ⟨hi.idx, hi.term, hi.kind⟩)
  have h2 := enc_length (nat64_lt (n := (e.data.length : Int)) (by omega) (by omega))
  have h3 : (payL (.entry e)).length ≤ 65536 := by
    show (encs [2, e.idx, e.term, e.kind] ++ txt e.data).length ≤ 65536
    rw [List.length_append]
    show _ + (enc (nat64 (e.data.length : Int)) ++ e.data).length ≤ _
    rw [List.length_append]
    simp only [List.length_cons, List.length_nil] at h1
    omega
  refine ⟨h3, ?_⟩
  unfold rcL
  rw [frameL_length]; omega
theorem entRecs_len : ∀ {l : List En}, (∀ e ∈ l, e.In ∧ e.data.length ≤ 60000) → (rcsL (l.map .entry)).length ≤ 65544 * l.length
  | [], _ => by simp [rcsL]
  | e :: l, h => by
    have h1 := entRecs_len (l := l) (fun x hx => h x (by simp [hx]))
    have h2 := (entRec_len (h e (by simp)).1 (h e (by simp)).2).2
    simp only [rcsL, List.map_cons, List.flatMap_cons, List.length_append, List.length_cons] at *
    omega

theorem isBuilder_below {T : TypeId} {B b : Nat} {bs : List Value} {w w' : World} (h : Lib.IsBuilder T 5 B b bs w) (hb : Below w.heap.size w w') : Lib.IsBuilder T 5 B b bs w' := by
  rcases h with h | h
  · obtain ⟨hB, v, hbk, hown, hne⟩ := h
    exact .inl ⟨hB, v, by rw [hb.block b (Array.getElem?_eq_some_iff.1 hbk).1]; exact hbk, ownsRow_below hown hb (Nat.le_refl _), hne⟩
  · obtain ⟨hB, v, hbk, hown, hne⟩ := h
    exact .inr ⟨hB, v, by rw [hb.block b (Array.getElem?_eq_some_iff.1 hbk).1]; exact hbk, ownsRow_below hown hb (Nat.le_refl _), hne⟩
theorem blkOk_plain : BlkOk 140 := ⟨by kernel_rfl, by decide⟩
def RecsRel (w : World) (l : List En) (i : Value) (wr : World) : Prop :=
  ∃ k : Nat, k ≤ l.length ∧ i = .int .i64 k ∧ (l.take k).all entB = true ∧ Lib.IsBuilder 140 5 w.heap.size w.heap.size (Lib.byteCells (rcsL ((l.take k).map .entry))) wr ∧ Below w.heap.size w wr
def RecsPost (w : World) (l : List En) (e : Ending) (w' : World) : Prop := e = .returned (.tuple #[.string (mk (if l.all entB then rcsL (l.map .entry) else [])), .bool (l.all entB)]) ∧ Below w.heap.size w w'
set_option maxHeartbeats 8000000 in
theorem entryRecords_any (v : Value) (l : List En) (w : World) {B0 : Nat} (hg : Glob w B0) (hB0 : B0 ≤ w.heap.size) (hv : EntsAt w v l) (hin : ∀ e ∈ l, e.In ∧ e.data.length ≤ 60000) (hlen : l.length ≤ 1000) :
    Calls Tryz.prog 106 #[v] w (RecsPost w l) := by
  have HG := hid hg
  have HV := hid hv
  have HI := hid hin
  have hfr : Lib.IsBuilder 140 5 w.heap.size w.heap.size [] (w.alloc (.cells #[.pointer none, .slice none 0 0] 140)) := Lib.fresh_isBuilder _ _ _
  have HF := hid hfr
  obtain ⟨ao, cap, rfl, -⟩ := hv
  clear hg hin hfr
  have HQ := hid hlen
  go_enter Tryz.func106, Tryz.ntmps106
  go_wp2
  go_loopw [11] (RecsRel w l) (fun i _ => l.length - (intOf i).toNat)
  case atStart => exact ⟨0, Nat.zero_le _, rfl, rfl, by simpa [rcsL, Lib.byteCells] using HF.out, (Below.refl _ _).alloc (Nat.le_refl _) _⟩
  case round =>
    obtain ⟨k, hk, rfl, hall, hI, hb⟩ := hrel
    have HA := hid hall
    have HBu := hid hI
    clear hall hI
    by_cases hlt : k < l.length
    · have hne : l ≠ [] := fun e => by rw [e] at hlt; simp at hlt
      obtain ⟨ao', cap', hv', hcc⟩ := HV.out
      obtain ⟨g, o, rfl, hgl, hcell⟩ := hcc hne
      simp only [Value.slice.injEq] at hv'
      obtain ⟨rfl, -, rfl⟩ := hv'
      obtain ⟨c0, c1, c2, c3⟩ := hcell k hlt
      have d0 := (hb.cell (p := ⟨g, o + k * 4, none⟩) hgl).trans c0
      have d1 := (hb.cell (p := ⟨g, o + k * 4 + 1, none⟩) hgl).trans c1
      have d2 := (hb.cell (p := ⟨g, o + k * 4 + 2, none⟩) hgl).trans c2
      have d3 := (hb.cell (p := ⟨g, o + k * 4 + 3, none⟩) hgl).trans c3
      have hz := hb.size
      have hX := HI.out l[k] (List.getElem_mem hlt)
      have HFits := hid (fun wx => entryFits_any l[k] (mk l[k].data) wx)
      have hsn : l.take (k + 1) = l.take k ++ [l[k]] := by rw [List.take_succ_eq_append_getElem hlt]
      have HSn := hid hsn
      have HAll := hid (show l.all entB = false ∨ entB l[k] = true by
        cases he : entB l[k] with
        | true => exact .inr rfl
        | false => left; rw [List.all_eq_false]; exact ⟨l[k], List.getElem_mem hlt, by rw [he]; simp⟩)
      clear c0 c1 c2 c3 hcell hcc hsn hne
      generalize hxe : l[k] = x at *
      clear hxe
      have hHX := hid hX
      clear hX
      cases hfit : entB x with
      | false =>
        have hno : l.all entB = false := by
          rcases HAll.out with h | h
          · exact h
          · rw [h] at hfit; cases hfit
        have HN := hid (fun wx (h : Below w.heap.size w wx) => (show RecsPost w l (.returned (.tuple #[.string (mk []), .bool false])) wx from ⟨by rw [hno]; rfl, h⟩))
        rw [hfit] at HFits
        clear hno hfit HAll
        generalize mk x.data = db at *
        go_wp2_with (go_at_call 154; (with_reducible refine (HFits.out _).mono ?_); rintro e w1 ⟨rfl, hb1⟩)
        go_ret2
        exact HN.out _ ((hb.alloc hz _).trans (hb1.mono (by simp; omega)))
      | true =>
        rw [hfit] at HFits
        have hbA : Below w.heap.size w (wr.alloc (.cells #[.int .i64 x.idx, .int .i64 x.term, .int .i64 x.kind, .string (mk x.data)] 95)) := hb.alloc hz _
        have HBx := hid (fun w1 (hb1 : Below (wr.alloc (.cells #[.int .i64 x.idx, .int .i64 x.term, .int .i64 x.kind, .string (mk x.data)] 95)).heap.size (wr.alloc (.cells #[.int .i64 x.idx, .int .i64 x.term, .int .i64 x.kind, .string (mk x.data)] 95)) w1) => (show own w1 wr.heap.size #[.int .i64 x.idx, .int .i64 x.term, .int .i64 x.kind, .string (mk x.data)] 95 ∧ Below w.heap.size w w1 ∧ w.heap.size ≤ w1.heap.size ∧ Below wr.heap.size wr w1 from
          ⟨(own.new wr _ _).same (hb1.block _ (by simp)), hbA.trans (hb1.mono hbA.size), by have := hb1.size; have := hbA.size; omega, ((Below.refl _ wr).alloc (Nat.le_refl _) _).trans (hb1.mono (by simp))⟩))
        clear hbA
        go_wp2_with (go_at_call 154; (with_reducible refine (HFits.out _).mono ?_); rintro e w1 ⟨rfl, hb1⟩)
        obtain ⟨hbox, b01, hz1, b11⟩ := HBx.out w1 hb1
        have hpay := (entRec_len hHX.out.1 hHX.out.2).1
        have hel := encs_length [2, x.idx, x.term, x.kind] (by simp; exact ⟨hHX.out.1.idx, hHX.out.1.term, hHX.out.1.kind⟩)
        have HI1 := hid (fun wx b (hx : Below w1.heap.size w1 wx) (ho : own wx b #[.int .i64 2, .int .i64 x.idx, .int .i64 x.term, .int .i64 x.kind] 3) => show Calls Tryz.prog 156 #[.slice (some ⟨b, 0, none⟩) 4 4] wx (fun e w' => e = .returned (.string (mk (encs [2, x.idx, x.term, x.kind]))) ∧ Below wx.heap.size wx w') from
          int_any _ [2, x.idx, x.term, x.kind] wx (ints_own ho 4 rfl) (by simp; exact ⟨hHX.out.1.idx, hHX.out.1.term, hHX.out.1.kind⟩) (by simp))
        have htx : (mk x.data).data.toList = x.data := rfl
        have HT1 := hid (fun wx b (hx : Below w1.heap.size w1 wx) (ho : own wx b #[.string (mk x.data)] 9) => show Calls Tryz.prog 157 #[.slice (some ⟨b, 0, none⟩) 1 1] wx (fun e w' => e = .returned (.string (mk (txt x.data))) ∧ Below wx.heap.size wx w') from by
          have := textS_any _ [mk x.data] wx (strs_own ho) (fun k y hy => by
            match k, hy with
            | 0, hy => simp at hy; subst hy; rw [mk_size]; simp [txts]; have := hHX.out.2; omega
            | k + 1, hy => simp at hy) (by simp)
          simpa [txts, htx] using this)
        have HFr := hid (fun wx (hx : Below w1.heap.size w1 wx) => show Calls Tryz.prog 155 #[.string (mk (payL (.entry x)))] wx (fun e w' => e = .returned (.tuple #[.string (mk (rcL (.entry x))), .int .i64 0]) ∧ Below wx.heap.size wx w') from
          frame_any (mk (payL (.entry x))) wx (by rw [mk_size]; exact hpay) ((HG.out.below (b01.trans (hx.mono hz1)) hB0).steps) (by have := HG.out.hsteps; have := hx.size; omega))
        have happ : mk (encs [2, x.idx, x.term, x.kind]) ++ mk (txt x.data) = mk (payL (.entry x)) := mk_append _ _
        have hs1 : (mk (encs [2, x.idx, x.term, x.kind])).size ≤ 50 := by rw [mk_size]; simp at hel; omega
        have hs2 : (mk (txt x.data)).size ≤ 65536 := by
          rw [mk_size]
          have h : (encs [2, x.idx, x.term, x.kind] ++ txt x.data).length ≤ 65536 := hpay
          rw [List.length_append] at h
          omega
        have hs3 : (mk (payL (.entry x))).size ≤ 65536 := by rw [mk_size]; exact hpay
        have hs4 : ¬ 9223372036854775807 < (mk (encs [2, x.idx, x.term, x.kind])).size + (mk (txt x.data)).size := by omega
        have HK := hid (fun wx (hx : Below w1.heap.size w1 wx) => (show (wx.cell? ⟨wr.heap.size, 0, none⟩ = some (.int .i64 x.idx) ∧ wx.cell? ⟨wr.heap.size, 1, none⟩ = some (.int .i64 x.term) ∧ wx.cell? ⟨wr.heap.size, 2, none⟩ = some (.int .i64 x.kind) ∧ wx.cell? ⟨wr.heap.size, 3, none⟩ = some (.string (mk x.data))) ∧ Below w1.heap.size w1 wx from by
          have h := hbox.same (hx.block _ hbox.lt)
          exact ⟨⟨(h.cell 0).trans rfl, (h.cell 1).trans rfl, (h.cell 2).trans rfl, (h.cell 3).trans rfl⟩, hx⟩))
        have HW := hid (fun wx (hx : Below w1.heap.size w1 wx) => show Calls Tryz.prog 92 #[.pointer (some ⟨w.heap.size, 0, none⟩), .string (mk (rcL (.entry x)))] wx (fun e w' => e = .returned (.tuple #[.int .i64 (mk (rcL (.entry x))).size, .nilIface]) ∧ RecsRel w l (.int .i64 ((k + 1 : Nat) : Int)) w') from by
          have hI0 := HBu.out
          have hI1 : Lib.IsBuilder 140 5 w.heap.size w.heap.size (Lib.byteCells (rcsL (List.map Rc.entry (List.take k l)))) wx := isBuilder_below hI0 (b11.trans (hx.mono b11.size))
          have hle := entRecs_len (l := l.take k) (fun e he => HI.out e (List.mem_of_mem_take he))
          have hlk : (l.take k).length ≤ k := List.length_take_le _ _
          have hl2 := (entRec_len hHX.out.1 hHX.out.2).2
          have hQ := HQ.out
          refine (writeString_any blkOk_plain w.heap.size w.heap.size _ (mk (rcL (.entry x))) wx hI1 (by rw [Lib.byteCells_length, mk_size]; omega) (by have := hx.size; omega)).mono ?_
          rintro e w' ⟨rfl, h1, h2⟩
          refine ⟨rfl, k + 1, by omega, rfl, ?_, ?_, ?_⟩
          · rw [HSn.out, List.all_append, HA.out]; simp [hfit]
          · rw [HSn.out, rcsL_snoc, ← byteCells_append]
            exact .inr h1
          · exact (b01.trans (hx.mono hz1)).trans h2)
        clear hbox b01 b11 hpay hel hHX hb1 HBx htx hfit HAll HFits HBu HA HSn HI
        generalize mk (encs [2, x.idx, x.term, x.kind]) = P1 at *
        generalize mk (txt x.data) = T1 at *
        generalize mk (payL (.entry x)) = PB at *
        generalize mk (rcL (.entry x)) = RB at *
        generalize mk x.data = db at *
        go_region_held3 (fun wx => (wx.cell? ⟨wr.heap.size, 0, none⟩ = some (.int .i64 x.idx) ∧ wx.cell? ⟨wr.heap.size, 1, none⟩ = some (.int .i64 x.term) ∧ wx.cell? ⟨wr.heap.size, 2, none⟩ = some (.int .i64 x.kind) ∧ wx.cell? ⟨wr.heap.size, 3, none⟩ = some (.string db)) ∧ Below w1.heap.size w1 wx)
          (first | exact HK.out _ (Below.drew (Below.refl _ _)) | exact HK.out _ hbk | exact HK.out _ (Below.alloc (And.right (by assumption)) (Below.size (And.right (by assumption))) _) | exact HK.out _ (Below.drew (Below.alloc (Below.refl _ _) (Nat.le_refl _) _)))
          (first
            | (go_at_call 156; (with_reducible refine (HI1.out _ _ (And.right (by assumption)) (by first | exact own_new (by simp) | exact own_drew (own_new (by simp)) | exact own_alloc _ (own_new (by simp)) | exact own_drew (own_alloc _ (own_new (by simp))) | exact hk2 _ _ _ (own_new (by simp)) | exact hk2 _ _ _ (own_drew (own_new (by simp))) | exact hk2 _ _ _ (own_alloc _ (own_new (by simp))) | exact hk2 _ _ _ (own_drew (own_alloc _ (own_new (by simp)))))).mono ?_); rintro e w2 ⟨rfl, hb2⟩; have hk2 := (fun b cs T (h : own _ b cs T) => h.same (hb2.block b h.lt)); have hbk : Below w1.heap.size w1 w2 := Below.trans (And.right (by assumption)) (hb2.mono (Below.size (And.right (by assumption)))))
            | (go_at_call 157; (with_reducible refine (HT1.out _ _ (And.right (by assumption)) (by first | exact own_new (by simp) | exact own_drew (own_new (by simp)) | exact own_alloc _ (own_new (by simp)) | exact own_drew (own_alloc _ (own_new (by simp))) | exact hk2 _ _ _ (own_new (by simp)) | exact hk2 _ _ _ (own_drew (own_new (by simp))) | exact hk2 _ _ _ (own_alloc _ (own_new (by simp))) | exact hk2 _ _ _ (own_drew (own_alloc _ (own_new (by simp)))))).mono ?_); rintro e w2 ⟨rfl, hb2⟩; have hk2 := (fun b cs T (h : own _ b cs T) => h.same (hb2.block b h.lt)); have hbk : Below w1.heap.size w1 w2 := Below.trans (And.right (by assumption)) (hb2.mono (Below.size (And.right (by assumption)))))
            | (go_at_call 155; (with_reducible refine (HFr.out _ (And.right (by assumption))).mono ?_); rintro e w3 ⟨rfl, hb3⟩; have hbk : Below w1.heap.size w1 w3 := Below.trans (And.right (by assumption)) (hb3.mono (Below.size (And.right (by assumption))))))
        all_goals
          clear happ hs1 hs2 hs4
          go_wp2_with (go_at_call 92; (with_reducible refine (HW.out _ (And.right (by assumption))).mono ?_); rintro e w4 ⟨rfl, hQ4⟩; have HQ4 := hid hQ4; clear hQ4)
          go_roundw
          case rel => exact HQ4.out
          case measure => simp [intOf]; omega
    · obtain rfl : k = l.length := by omega
      have hal : l.all entB = true := by have := HA.out; rwa [List.take_of_length_le (Nat.le_refl _)] at this
      have hI := HBu.out
      rw [List.take_of_length_le (Nat.le_refl _)] at hI
      have HS := hid (string_any w.heap.size w.heap.size (rcsL (l.map .entry)) wr hI hb.size)
      have HN := hid (fun wx (h : Below w.heap.size w wx) => (show RecsPost w l (.returned (.tuple #[.string (mk (rcsL (l.map .entry))), .bool true])) wx from ⟨by rw [hal]; rfl, h⟩))
      clear hal hI HBu
      generalize rcsL (l.map .entry) = r at *
      go_wp2_with (go_at_call 93; (with_reducible refine HS.out.mono ?_); rintro e w1 ⟨rfl, hb1⟩)
      go_ret2
      exact HN.out _ (hb.trans hb1)
end Go.Proofs.YtbidglefddmjhaaGreatDoor

