import Derived.Test.YtgchdlfoehlomaaGreatDoorWlTakeJ
import Derived.Test.YtgchdlfoehlomaaGreatDoorWlFJ
/-
  LAYER 3 (wal): a log's calls of its disk.
-/
namespace Go.Proofs.YtgchdlfoehlomaaGreatDoor
open Go.RowKit Go.Maps
set_option linter.unusedVariables false
set_option maxRecDepth 100000

def wrL (s : Dk) (n d : List UInt8) : Dk × Int := if (app s n d).2 = 0 then syn (app s n d).1 n else app s n d
def trL (s : Dk) (n : List UInt8) (k : Int) : Dk × Int := if (trunc s n k).2 = 0 then syn (trunc s n k).1 n else trunc s n k
theorem diskIs_lt {w : World} {S : Nat → Prop} {a : Nat} {s : Dk} (h : DiskIs w S a s) : ∀ b, S b → b < w.heap.size := by obtain ⟨mb, F, h⟩ := h; exact h.lt
theorem opPost_then {w w1 w2 : World} {S : Nat → Prop} {a : Nat} {r1 r2 : Dk × Int} {e1 e2 : Ending} (hlt : ∀ b, S b → b < w.heap.size) (h1 : OpPost w S a r1 e1 w1) (h2 : OpPost w1 (grow S w w1) a r2 e2 w2) : OpPost w S a r2 e2 w2 := by
  obtain ⟨-, d1, c1⟩ := h1
  obtain ⟨he, ⟨mb, F, d2⟩, c2⟩ := h2
  exact ⟨he, ⟨mb, F, d2.after (S1 := grow S w w1) (fun b hb => hb) hlt c1.size c2.size⟩, c1.after (fun b hb => hb) c2⟩
/-- The first cell of a block beside the disk. -/
def AtDisk (w : World) (S : Nat → Prop) (p a : Nat) : Prop := ¬ S p ∧ p < w.heap.size ∧ w.cell? ⟨p, 0, none⟩ = some (.pointer (some ⟨a, 0, none⟩))
theorem AtDisk.chg {w w' : World} {S : Nat → Prop} {p a : Nat} (h : AtDisk w S p a) (hc : Chg S w w') : AtDisk w' (grow S w w') p a := by
  obtain ⟨h1, h2, h3⟩ := h
  have hs := hc.size
  refine ⟨fun e => e.elim h1 (fun e => by omega), by omega, ?_⟩
  rw [← h3]
  unfold World.cell?
  rw [hc.block p h2 h1]
set_option maxHeartbeats 4000000 in
theorem write_any {w : World} {S : Nat → Prop} {p a : Nat} {s : Dk} (h : DiskIs w S a s) (hp : AtDisk w S p a) (n d : ByteArray) (hn : n.size ≤ maxLen) (hd : d.size ≤ 140737488355328) :
    Calls Tryz.prog 34 #[.pointer (some ⟨p, 0, none⟩), .string n, .string d] w (OpPost w S a (wrL s n.data.toList d.data.toList)) := by
  have c0 := hp.2.2
  have HA := hid (append_any h n d hn hd)
  have HP := hid hp
  have HL := hid (diskIs_lt h)
  have hsy : ∀ (r : Dk × Int) w1, DiskIs w1 (grow S w w1) a r.1 → Calls Tryz.prog 64 #[.pointer (some ⟨a, 0, none⟩), .string n] w1 (OpPost w1 (grow S w w1) a (syn r.1 n.data.toList)) := fun r w1 h1 => sync_any h1 n hn
  have HS := hid hsy
  unfold wrL
  clear h hp hsy
  generalize app s n.data.toList d.data.toList = r at *
  obtain ⟨s1, k⟩ := r
  by_cases hk : k = 0
  · subst hk
    rw [if_pos rfl]
    have HS1 := hid (fun w1 h1 => HS.out (s1, 0) w1 h1)
    clear HS
    simp only at HS1
    generalize syn s1 n.data.toList = r2 at *
    go_enter Tryz.func34, Tryz.ntmps34
    go_wp2_with (first
      | (go_at_call 63; (with_reducible refine HA.out.mono ?_); rintro e w1 hq; have HQ := hid hq; have hk1 := (HP.out.chg hq.2.2).2.2; have HS2 := hid (HS1.out w1 hq.2.1); obtain ⟨rfl, -, -⟩ := hq)
      | (go_at_call 64; (with_reducible refine HS2.out.mono ?_); rintro e w2 hq2; have HQ2 := hid hq2; obtain ⟨rfl, -, -⟩ := hq2))
    go_ret
    exact opPost_then HL.out HQ.out HQ2.out
  · rw [if_neg hk]
    clear HS
    go_enter Tryz.func34, Tryz.ntmps34
    go_wp2_with (go_at_call 63; (with_reducible refine HA.out.mono ?_); rintro e w1 hq; have HQ := hid hq; have hk1 := (HP.out.chg hq.2.2).2.2; obtain ⟨rfl, -, -⟩ := hq)
    go_ret
    exact HQ.out
set_option maxHeartbeats 4000000 in
theorem trim_any {w : World} {S : Nat → Prop} {p a : Nat} {s : Dk} (h : DiskIs w S a s) (hp : AtDisk w S p a) (n : ByteArray) (hn : n.size ≤ maxLen) (i : Int) :
    Calls Tryz.prog 70 #[.pointer (some ⟨p, 0, none⟩), .string n, .int .i64 i] w (OpPost w S a (trL s n.data.toList i)) := by
  have c0 := hp.2.2
  have HA := hid (trunc_any h n hn i)
  have HP := hid hp
  have HL := hid (diskIs_lt h)
  have hsy : ∀ (r : Dk × Int) w1, DiskIs w1 (grow S w w1) a r.1 → Calls Tryz.prog 64 #[.pointer (some ⟨a, 0, none⟩), .string n] w1 (OpPost w1 (grow S w w1) a (syn r.1 n.data.toList)) := fun r w1 h1 => sync_any h1 n hn
  have HS := hid hsy
  unfold trL
  clear h hp hsy
  generalize trunc s n.data.toList i = r at *
  obtain ⟨s1, k⟩ := r
  by_cases hk : k = 0
  · subst hk
    rw [if_pos rfl]
    have HS1 := hid (fun w1 h1 => HS.out (s1, 0) w1 h1)
    clear HS
    simp only at HS1
    generalize syn s1 n.data.toList = r2 at *
    go_enter Tryz.func70, Tryz.ntmps70
    go_wp2_with (first
      | (go_at_call 108; (with_reducible refine HA.out.mono ?_); rintro e w1 hq; have HQ := hid hq; have hk1 := (HP.out.chg hq.2.2).2.2; have HS2 := hid (HS1.out w1 hq.2.1); obtain ⟨rfl, -, -⟩ := hq)
      | (go_at_call 64; (with_reducible refine HS2.out.mono ?_); rintro e w2 hq2; have HQ2 := hid hq2; obtain ⟨rfl, -, -⟩ := hq2))
    go_ret
    exact opPost_then HL.out HQ.out HQ2.out
  · rw [if_neg hk]
    clear HS
    go_enter Tryz.func70, Tryz.ntmps70
    go_wp2_with (go_at_call 108; (with_reducible refine HA.out.mono ?_); rintro e w1 hq; have HQ := hid hq; have hk1 := (HP.out.chg hq.2.2).2.2; obtain ⟨rfl, -, -⟩ := hq)
    go_ret
    exact HQ.out
/-- Whether a log's disk is dead. -/
theorem walDead_any {w : World} {S : Nat → Prop} {p a : Nat} {s : Dk} (h : DiskIs w S a s) (hp : AtDisk w S p a) :
    Calls Tryz.prog 39 #[.pointer (some ⟨p, 0, none⟩)] w fun e w' => e = .returned (.bool s.dead) ∧ w = w' := by
  have c0 := hp.2.2
  obtain ⟨mb, F, h⟩ := h
  have HD := hid (dead_any h)
  clear h hp
  go_enter Tryz.func39, Tryz.ntmps39
  go_wp2_with (go_at_call 71; (with_reducible refine HD.out.mono ?_); rintro e w1 ⟨rfl, rfl⟩)
  go_ret
  exact ⟨rfl, rfl⟩
end Go.Proofs.YtgchdlfoehlomaaGreatDoor

