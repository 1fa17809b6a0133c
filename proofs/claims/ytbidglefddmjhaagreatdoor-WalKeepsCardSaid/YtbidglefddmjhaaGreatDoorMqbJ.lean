import Derived.Test.YtbidglefddmjhaaGreatDoorWlRoomJ
import Derived.Test.YtbidglefddmjhaaGreatDoorMq5J
import Derived.Test.YtbidglefddmjhaaGreatDoorMq0J
import Derived.Test.YtbidglefddmjhaaGreatDoorMq1J
import Derived.Lib.AtoiTie
/-
  LAYER 3 (wal): a log and its disk in memory, through a row of calls.
-/
namespace Go.Proofs.YtbidglefddmjhaaGreatDoor
open Go.RowKit Go.Maps
set_option linter.unusedVariables false
set_option maxRecDepth 100000

/-- A log (block p) with its disk (block a); T: all blocks that they may turn. -/
structure LogAt (w : World) (T : Nat → Prop) (p a : Nat) (s : Dk) (g : Lg) : Prop where
  ex : ∃ S v, DiskIs w S a s ∧ StRep w 0 p a v g ∧ ¬ S p ∧ (∀ b, v.ownBlock = some b → ¬ S b) ∧ (∀ b, S b → T b) ∧ T p ∧ ∀ b, v.ownBlock = some b → T b
  lt : ∀ b, T b → b < w.heap.size
  ok : g.Ok
  len : g.L.length ≤ 100000
/-- .. behind calls from world w on. -/
def LgRun (w : World) (T : Nat → Prop) (p a : Nat) (s : Dk) (g : Lg) (wx : World) : Prop := LogAt wx (grow T w wx) p a s g ∧ Chg T w wx
section
variable {w wx wy : World} {T : Nat → Prop} {p a : Nat} {s : Dk} {g : Lg}
theorem LogAt.below (h : LogAt w T p a s g) (hb : Below w.heap.size w wx) : LogAt wx T p a s g := by
  obtain ⟨⟨S, v, h1, h2, h3⟩, hl, ho, hn⟩ := h
  exact ⟨⟨S, v, h1.below hb, h2.below hb, h3⟩, fun b hT => by have := hl b hT; have := hb.size; omega, ho, hn⟩
theorem LogAt.widen (h : LogAt w T p a s g) {U : Nat → Prop} (hU : ∀ b, T b → U b) (hl : ∀ b, U b → b < w.heap.size) : LogAt w U p a s g := by
  obtain ⟨⟨S, v, h1, h2, h3, h4, h5, h6, h7⟩, _, ho, hn⟩ := h
  exact ⟨⟨S, v, h1, h2, h3, h4, fun b hb => hU b (h5 b hb), hU p h6, fun b hb => hU b (h7 b hb)⟩, hl, ho, hn⟩
theorem LogAt.run (h : LogAt w T p a s g) : LgRun w T p a s g w := ⟨h.widen (fun b hb => .inl hb) (grow_lt h.lt (Nat.le_refl _)), Chg.refl _ _⟩
theorem LgRun.below (h : LgRun w T p a s g wx) (hb : Below wx.heap.size wx wy) : LgRun w T p a s g wy := by
  obtain ⟨h1, h2⟩ := h
  have h3 := h1.below hb
  refine ⟨h3.widen (fun b hx => ?_) (fun b hx => ?_), h2.trans (Chg.of_below (S := T) hb) (fun b hb => .inl hb)⟩
  · rcases hx with hx | hx
    · exact .inl hx
    · exact .inr ⟨hx.1, by have := hb.size; omega⟩
  · rcases hx with hx | hx
    · have := h1.lt b (.inl hx); have := hb.size; omega
    · exact hx.2
theorem LgRun.ok (h : LgRun w T p a s g wx) : g.Ok := h.1.ok
theorem LogAt.ptr (h : LogAt w T p a s g) : p < w.heap.size := by
  obtain ⟨⟨S, v, h1, h2, _⟩, _⟩ := h
  exact h2.head.lt
theorem LogAt.cells (h : LogAt w T p a s g) : w.cell? ⟨p, 0, none⟩ = some (.pointer (some ⟨a, 0, none⟩)) ∧ w.cell? ⟨p, 1, none⟩ = some (.int .i64 g.hd.term) ∧ w.cell? ⟨p, 2, none⟩ = some (.int .i64 g.hd.vote) ∧ (∀ k, w.frozen? ⟨p, k, none⟩ = false) := by
  obtain ⟨⟨S, v, h1, h2, _⟩, _⟩ := h
  exact ⟨(h2.head.cell 0).trans rfl, (h2.head.cell 1).trans rfl, (h2.head.cell 2).trans rfl, h2.head.frozen⟩
theorem grow_in {w wx wy : World} {S T : Nat → Prop} (hS : ∀ b, S b → grow T w wx b) (h1 : w.heap.size ≤ wx.heap.size) (h2 : wx.heap.size ≤ wy.heap.size) : ∀ b, grow S wx wy b → grow T w wy b := fun b hb => by
  rcases hb with hb | hb
  · rcases hS b hb with hb | hb
    · exact .inl hb
    · exact .inr ⟨hb.1, by omega⟩
  · exact .inr ⟨by omega, hb.2⟩
theorem LgRun.lt (h : LgRun w T p a s g wx) (hT : ∀ b, T b → b < w.heap.size) : ∀ b, grow T w wx b → b < wx.heap.size := grow_lt hT h.2.size
/-- A call of the disk's. -/
theorem LgRun.op (h : LgRun w T p a s g wx) (hT : ∀ b, T b → b < w.heap.size) {f : FuncId} {args : Array Value} {r : Dk × Int} (hf : ∀ S, DiskIs wx S a s → AtDisk wx S p a → Calls Tryz.prog f args wx (OpPost wx S a r)) :
    Calls Tryz.prog f args wx fun e wy => e = .returned (.int .i64 r.2) ∧ LgRun w T p a r.1 g wy := by
  obtain ⟨⟨⟨S, v, h1, h2, h3, h4, h5, h6, h7⟩, hl, ho, hn⟩, hc⟩ := h
  have hpx := h2.head.lt
  refine (hf S h1 ⟨h3, hpx, (h2.head.cell 0).trans rfl⟩).mono ?_
  rintro e wy ⟨he, hD, hc2⟩
  refine ⟨he, ⟨⟨_, v, hD, h2.same (hc2.block p hpx h3) (fun b hb => hc2.block b (World.ownsRow.lt h2.row b hb).2 (h4 b hb)), ?_, fun b hb hx => ?_, grow_in h5 hc.size hc2.size, ?_, fun b hb => ?_⟩, grow_lt hT (by have := hc.size; have := hc2.size; omega), ho, hn⟩, hc.trans hc2 (fun b hb => ?_)⟩
  · exact fun hx => hx.elim h3 (fun hx => by omega)
  · rcases hx with hx | hx
    · exact h4 b hb hx
    · have := (World.ownsRow.lt h2.row b hb).2; omega
  · rcases h6 with h6 | h6
    · exact .inl h6
    · exact .inr ⟨h6.1, by have := hc2.size; omega⟩
  · rcases h7 b hb with h8 | h8
    · exact .inl h8
    · exact .inr ⟨h8.1, by have := hc2.size; omega⟩
  · rcases h5 b hb with h8 | h8
    · exact .inl h8
    · exact .inr h8.1
/-- A call that reads the disk, and may make memory. -/
theorem LgRun.reads (h : LgRun w T p a s g wx) {f : FuncId} {args : Array Value} {Q : Ending → World → Prop} (hf : ∀ S, DiskIs wx S a s → AtDisk wx S p a → Calls Tryz.prog f args wx Q) : Calls Tryz.prog f args wx Q := by
  obtain ⟨⟨⟨S, v, h1, h2, h3, _⟩, _⟩, _⟩ := h
  exact hf S h1 ⟨h3, h2.head.lt, (h2.head.cell 0).trans rfl⟩
theorem LgRun.disk (h : LgRun w T p a s g wx) : s.Ok := by
  obtain ⟨⟨⟨S, v, ⟨mb, F, h1⟩, _⟩, _⟩, _⟩ := h
  exact h1.ok
/-- The state turned. -/
theorem LgRun.state (h : LgRun w T p a s g wx) (hT : ∀ b, T b → b < w.heap.size) {g' : Lg} (hg : g'.Ok) (hn' : g'.L.length ≤ 100000)
    (hs : ∀ v, StRep wx 0 p a v g → ∃ v', StRep wy 0 p a v' g' ∧ Chg (fun b => b = p ∨ v.ownBlock = some b) wx wy ∧ (v'.ownBlock = v.ownBlock ∨ ∀ b, v'.ownBlock = some b → wx.heap.size ≤ b)) : LgRun w T p a s g' wy := by
  obtain ⟨⟨⟨S, v, h1, h2, h3, h4, h5, h6, h7⟩, hl, ho, hn⟩, hc⟩ := h
  obtain ⟨v', k1, k2, k3⟩ := hs v h2
  have hS : ∀ b, S b → b < wx.heap.size := fun b hb => hl b (h5 b hb)
  refine ⟨⟨⟨S, v', h1.same k2.size (fun b hb => k2.block b (hS b hb) (fun e => ?_)), k1, h3, fun b hb hx => ?_, fun b hb => ?_, ?_, fun b hb => ?_⟩, grow_lt hT (by have := hc.size; have := k2.size; omega), hg, hn'⟩, hc.trans k2 (fun b hb => ?_)⟩
  · rcases e with e | e
    · exact h3 (by rw [← e]; exact hb)
    · exact h4 b e hb
  · rcases k3 with k3 | k3
    · exact h4 b (by rw [← k3]; exact hb) hx
    · have := k3 b hb; have := hS b hx; omega
  · rcases h5 b hb with h8 | h8
    · exact .inl h8
    · exact .inr ⟨h8.1, by have := k2.size; omega⟩
  · rcases h6 with h6 | h6
    · exact .inl h6
    · exact .inr ⟨h6.1, by have := k2.size; omega⟩
  · rcases k3 with k3 | k3
    · rcases h7 b (by rw [← k3]; exact hb) with h8 | h8
      · exact .inl h8
      · exact .inr ⟨h8.1, by have := k2.size; omega⟩
    · exact .inr ⟨by have := k3 b hb; have := hc.size; omega, (World.ownsRow.lt k1.row b hb).2⟩
  · rcases hb with e | e
    · rw [e]
      rcases h6 with h6 | h6
      · exact .inl h6
      · exact .inr h6.1
    · rcases h7 b e with h8 | h8
      · exact .inl h8
      · exact .inr h8.1
theorem LgRun.rebase (hb : Below w.heap.size w wx) (hT : ∀ b, T b → b < w.heap.size) (h : LgRun wx T p a s g wy) : LgRun w T p a s g wy := by
  obtain ⟨h1, h2⟩ := h
  have hz := hb.size
  refine ⟨h1.widen (fun b hx => ?_) (grow_lt hT (by have := h2.size; omega)), (Chg.of_below hb).trans h2 (fun b hx => .inl hx)⟩
  rcases hx with hx | hx
  · exact .inl hx
  · exact .inr ⟨by omega, hx.2⟩
theorem LgRun.write (h : LgRun w T p a s g wx) (hT : ∀ b, T b → b < w.heap.size) (n d : ByteArray) (hn : n.size ≤ maxLen) (hd : d.size ≤ 140737488355328) :
    Calls Tryz.prog 74 #[.pointer (some ⟨p, 0, none⟩), .string n, .string d] wx fun e wy => e = .returned (.int .i64 (wrL s n.data.toList d.data.toList).2) ∧ LgRun w T p a (wrL s n.data.toList d.data.toList).1 g wy :=
  h.op hT fun S h1 h2 => write_any h1 h2 n d hn hd
theorem LgRun.put (h : LgRun w T p a s g wx) (hT : ∀ b, T b → b < w.heap.size) (x : En) (hx : entB x = true) (hi : x.In) (hd : x.data.length ≤ 140737488355328) (hn : g.L.length + 1 ≤ 100000) :
    Calls Tryz.prog 110 #[.pointer (some ⟨p, 1, none⟩), .agg #[.int .i64 x.idx, .int .i64 x.term, .int .i64 x.kind, .string (mk x.data)]] wx fun e wy => e = .returned (.tuple #[]) ∧ LgRun w T p a s { g with L := putE g.L x } wy := by
  have h' := h
  obtain ⟨⟨⟨S, v, h1, h2, h3, h4, h5, h6, h7⟩, hl, ho, hl'⟩, hc⟩ := h
  obtain ⟨q1, q2⟩ := putE_ok ho.row ho.ents hx hi
  refine (put_any h2 ho.row (fun e he => (ho.ents e he).2) hl' (Nat.zero_le _) x hi.idx hd).mono ?_
  rintro e wy ⟨he, v', k1, k2, k3⟩
  -- the state is turned at this very row
  refine ⟨he, ⟨⟨S, v', h1.same k2.size (fun b hb => k2.block b (hl b (h5 b hb)) (fun e => ?_)), k1, h3, fun b hb hx => ?_, fun b hb => ?_, ?_, fun b hb => ?_⟩, grow_lt hT (by have := hc.size; have := k2.size; omega), ⟨ho.hd, q1, q2⟩, ?_⟩, hc.trans k2 (fun b hb => ?_)⟩
  · rcases e with e | e
    · exact h3 (by rw [← e]; exact hb)
    · exact h4 b e hb
  · rcases k3 with k3 | k3
    · exact h4 b (by rw [← k3]; exact hb) hx
    · have := k3 b hb; have := hl b (h5 b hx); omega
  · rcases h5 b hb with h8 | h8
    · exact .inl h8
    · exact .inr ⟨h8.1, by have := k2.size; omega⟩
  · rcases h6 with h6 | h6
    · exact .inl h6
    · exact .inr ⟨h6.1, by have := k2.size; omega⟩
  · rcases k3 with k3 | k3
    · rcases h7 b (by rw [← k3]; exact hb) with h8 | h8
      · exact .inl h8
      · exact .inr ⟨h8.1, by have := k2.size; omega⟩
    · exact .inr ⟨by have := k3 b hb; have := hc.size; omega, (World.ownsRow.lt k1.row b hb).2⟩
  · have : (putE g.L x).length ≤ g.L.length + 1 := by
      unfold putE
      rw [List.length_append, List.length_take, List.length_singleton]; omega
    show (putE g.L x).length ≤ 100000
    omega
  · rcases hb with e | e
    · rw [e]
      rcases h6 with h6 | h6
      · exact .inl h6
      · exact .inr h6.1
    · rcases h7 b e with h8 | h8
      · exact .inl h8
      · exact .inr h8.1
/-- The hard state stored. -/
theorem LgRun.hard (h : LgRun w T p a s g wx) (hT : ∀ b, T b → b < w.heap.size) {hh : Hd} (h0 : hdB hh = true) (h1 : I64 hh.term) (h2 : I64 hh.vote) :
    LgRun w T p a s { g with hd := hh } ((wx.setCell ⟨p, 1, none⟩ (.int .i64 hh.term)).setCell ⟨p, 2, none⟩ (.int .i64 hh.vote)) := by
  refine h.state hT (g' := { g with hd := hh }) ⟨⟨h0, h1, h2⟩, h.ok.row, h.ok.ents⟩ h.1.len (fun v hv => ⟨v, ?_, ?_, .inl rfl⟩)
  · have o1 := hv.head.set 1 (.int .i64 hh.term)
    have o2 := o1.set 2 (.int .i64 hh.vote)
    refine ⟨by simpa using o2, hv.row.same (fun b hb => ?_), hv.apart, hv.hp⟩
    have hne : b ≠ p := fun e => hv.apart (by rw [hb, e])
    exact (Below.heap_setCell _ _ _ _ hne).trans (Below.heap_setCell _ _ _ _ hne)
  · exact (Chg.setCell wx ⟨p, 1, none⟩ _).trans (Chg.setCell _ ⟨p, 2, none⟩ _) (fun b e => .inl e) |>.mono (fun b e => .inl e)
/-- The entries forgotten. -/
theorem LgRun.empty (h : LgRun w T p a s g wx) (hT : ∀ b, T b → b < w.heap.size) : LgRun w T p a s { g with L := [] } (wx.setCell ⟨p, 3, none⟩ (.slice none 0 0)) := by
  refine h.state hT (g' := { g with L := [] }) ⟨h.ok.hd, fun k hk => by simp at hk, fun e he => by cases he⟩ (Nat.zero_le _) (fun v hv => ⟨.slice none 0 0, ?_, (Chg.setCell wx ⟨p, 3, none⟩ _).mono (fun b e => .inl e), .inr (fun b hb => by cases hb)⟩)
  exact ⟨by simpa using hv.head.set 3 (.slice none 0 0), EntRow.none _ _, (fun e => by cases e), hv.hp⟩
end
end Go.Proofs.YtbidglefddmjhaaGreatDoor

/-
  LAYER 3 (wal), plain mathematics: a segment's name is read as its number, and is a file's name.
-/
namespace Go.Proofs.YtbidglefddmjhaaGreatDoor
open Go.RowKit Go.Lib
set_option linter.unusedVariables false
set_option maxRecDepth 100000

theorem digitVal_of {d : Nat} (h : d < 10) : digitVal (UInt8.ofNat (48 + d)) = some d := by
  have e : (UInt8.ofNat (48 + d)).toNat = 48 + d := by rw [UInt8.toNat_ofNat']; exact Nat.mod_eq_of_lt (by omega)
  unfold digitVal
  rw [e, if_pos (by omega)]
  congr 1
  omega
theorem decFrom_append : ∀ (l m : List UInt8) (acc n : Nat), decFrom acc l = some n → decFrom acc (l ++ m) = decFrom n m
  | [], m, acc, n, h => by simp only [decFrom, Option.some.injEq] at h; subst h; rfl
  | a :: t, m, acc, n, h => by
    simp only [decFrom, List.cons_append] at h ⊢
    cases ha : digitVal a with
    | none => simp [ha] at h
    | some e =>
      simp only [ha] at h ⊢
      exact decFrom_append t m _ n h
theorem decFrom_digits (u : Nat) : decFrom 0 (decDigits u) = some u := by
  induction u using Nat.strongRecOn with
  | _ u ih =>
    by_cases h : u < 10
    · rw [decDigits, dif_pos h]
      simp only [decFrom, digitVal_of h]
      simp
    · rw [decDigits, dif_neg h, decFrom_append _ _ _ _ (ih (u / 10) (by omega))]
      simp only [decFrom, digitVal_of (Nat.mod_lt u (by omega : 0 < 10))]
      congr 1
      omega
theorem decDigits_mem {u : Nat} {c : UInt8} (h : c ∈ decDigits u) : 48 ≤ c.toNat ∧ c.toNat ≤ 57 := by
  obtain ⟨k, hk, rfl⟩ := List.getElem_of_mem h
  obtain ⟨d, hd⟩ := digit_of_decFrom _ _ _ (decFrom_digits u) k _ (List.getElem?_eq_getElem hk)
  have := digitVal_eq hd
  omega
theorem decDigits_ne (u : Nat) : decDigits u ≠ [] := by
  intro h
  have := decDigits_length u
  rw [h] at this
  have := nDigits_pos u
  simp at *
  omega
theorem itoa_nat (n : Nat) : itoa (n : Int) = decDigits n := by
  unfold itoa
  rw [if_neg (by omega), Int.toNat_natCast]
theorem atoi_itoa (n : Nat) : atoi (decDigits n) = some (n : Int) := by
  cases hl : decDigits n with
  | nil => exact absurd hl (decDigits_ne n)
  | cons b r =>
    have hb := decDigits_mem (u := n) (c := b) (by rw [hl]; simp)
    have hd := decFrom_digits n
    rw [hl] at hd
    have h1 : (b == 45) = false := by rw [beq_eq_false_iff_ne]; intro e; rw [e] at hb; exact absurd hb.1 (by decide)
    have h2 : (b == 43) = false := by rw [beq_eq_false_iff_ne]; intro e; rw [e] at hb; exact absurd hb.1 (by decide)
    simp only [atoi, h1, h2, decNat, hd]
    simp
theorem decDigits_short {n : Nat} (h : n ≤ 999999) : (decDigits n).length ≤ 6 := by
  rw [decDigits_length]
  rcases Nat.lt_or_ge 6 (nDigits n) with h6 | h6
  · exfalso
    have key : ∀ k u : Nat, k < nDigits u → 10 ^ k ≤ u ∨ k = 0 := by
      intro k
      induction k with
      | zero => intro u _; exact .inr rfl
      | succ k ih =>
        intro u hu
        by_cases hs : u < 10
        · rw [nDigits_small hs] at hu; omega
        · rw [nDigits_big hs] at hu
          rcases ih (u / 10) (by omega) with h1 | h1
          · left
            rw [Nat.pow_succ]; omega
          · left
            rw [h1]; omega
    rcases key 6 n h6 with h1 | h1
    · have : (10 : Nat) ^ 6 = 1000000 := by decide
      omega
    · omega
  · exact h6
theorem atoiAll_itoa {n : Nat} (h : n ≤ 999999) : atoiAll (decDigits n) = .ok (n : Int) := by
  rw [atoiAll_short _ (by have := decDigits_short h; omega), atoi_itoa]
  rfl
theorem segN_nat (n : Nat) : segN (n : Int) = 119 :: decDigits n := by unfold segN; rw [itoa_nat]
theorem segV_segN {n : Nat} (h1 : 1 ≤ n) (h2 : n ≤ 999999) : segV (segN (n : Int)) = n := by
  rw [segN_nat, segV_cons, atoiAll_itoa h2]
  simp only
  rw [if_pos ⟨by omega, by omega, (segN_nat n).symm⟩, Int.toNat_natCast]
theorem isName_segN {n : Nat} (h : n ≤ 999999) : isName (segN (n : Int)) = true := by
  rw [segN_nat]
  have hl := decDigits_short h
  unfold isName
  simp only [List.length_cons, Bool.and_eq_true, decide_eq_true_eq, List.all_eq_true]
  refine ⟨by omega, fun c hc => ?_⟩
  rcases List.mem_cons.1 hc with rfl | hc
  · decide
  · have := decDigits_mem hc
    unfold nameByte
    rw [decide_eq_true_eq]
    right
    omega
/-- A name that is a segment's is what its number is written as. -/
theorem segV_name {l : List UInt8} (h : segV l ≠ 0) : l = segN (segV l : Int) ∧ 1 ≤ segV l ∧ segV l ≤ 999999 := by
  have hle := segV_le l
  refine ⟨?_, by omega, hle⟩
  cases l with
  | nil => exact absurd segV_nil h
  | cons c r =>
    have e := segV_cons c r
    cases ha : atoiAll r with
    | ok v =>
      rw [ha] at e
      simp only at e
      by_cases hc : 1 ≤ v ∧ v ≤ 999999 ∧ c :: r = segN v
      · rw [if_pos hc] at e
        rw [e, show ((v.toNat : Nat) : Int) = v by omega]
        exact hc.2.2
      · rw [if_neg hc] at e; exact absurd e h
    | _ => rw [ha] at e; exact absurd e h
end Go.Proofs.YtbidglefddmjhaaGreatDoor

/-
  LAYER 3 (wal), plain mathematics: what Save and Reset make of a log; a log alone on a disk that has power.
-/
namespace Go.Proofs.YtbidglefddmjhaaGreatDoor
open Go.RowKit
set_option linter.unusedVariables false
set_option maxRecDepth 100000

def hdRec (s : Dk) (z : Nat) (g : Lg) (h : Hd) : List UInt8 := if z = 0 ∨ h ≠ g.hd then rcL (.hard h) else []
def entRecs (l : List En) : List UInt8 := rcsL (l.map .entry)
/-- Bytes laid into a segment, and what the log is then. -/
def laid (s : Dk) (g g' : Lg) (n : List UInt8) (d : List UInt8) : Dk × Lg × Int :=
  ((wrL s n d).1, if (wrL s n d).2 = 0 then g' else g, (wrL s n d).2)
def putEs (L : List En) (l : List En) : List En := l.foldl putE L
def saveL (s : Dk) (g : Lg) (h : Hd) (l : List En) : Dk × Lg × Int :=
  if l.all entB = false ∨ hdB h = false then (s, g, 1) else
  if l = [] ∧ h = g.hd then (s, g, 0) else
  if s.dead then (s, g, 7) else
  if (roomL s).2.2 ≠ 0 then (s, g, (roomL s).2.2) else
  laid s g ⟨h, putEs g.L l⟩ (roomL s).1 (hdRec s (roomL s).2.1 g h ++ entRecs l)
def resetL (s : Dk) (g : Lg) : Dk × Lg × Int :=
  if s.dead then (s, g, 7) else
  if (lastL s).2.2 ≠ 0 then (s, g, (lastL s).2.2) else
  laid s g ⟨g.hd, []⟩ (lastL s).1 ((if (lastL s).2.1 = 0 then rcL (.hard g.hd) else []) ++ rcL .reset)

/-- A disk that has power, of segments alone, not many. -/
structure Good (s : Dk) : Prop where
  alive : s.dead = false
  fuse : s.fuse < 0
  ok : s.Ok
  segs : ∀ f ∈ s.L, isSeg f.name = true
  few : s.L.length ≤ 20

theorem isSeg_segN {n : Nat} (h1 : 1 ≤ n) (h2 : n ≤ 999999) : isSeg (segN (n : Int)) = true := by
  unfold isSeg
  rw [segV_segN h1 h2, decide_eq_true_eq]
  omega
theorem Good.names {s : Dk} (h : Good s) : (s.L.map AF.name).filter isSeg = s.L.map AF.name := by
  rw [List.filter_eq_self]
  intro x hx
  obtain ⟨f, hf, rfl⟩ := List.mem_map.1 hx
  exact h.segs f hf
theorem Good.len {s : Dk} (h : Good s) : (segsL s.L).length = s.L.length := by
  rw [(segsL_perm s.L).length_eq, h.names, List.length_map]
theorem rd_in {s : Dk} (hd : s.dead = false) (hr : s.Ok) {n : List UInt8} (hn : n ∈ s.L.map AF.name) : ∃ f, fndK AF.key n s.L = some f ∧ rd s n = (f.data, 0) := by
  obtain ⟨f, hf, rfl⟩ := List.mem_map.1 hn
  have h1 : fndK AF.key f.name s.L = some f := fndK_of_mem hr.rise hf
  exact ⟨f, h1, by unfold rd; rw [hd, h1]; rfl⟩
theorem Good.last {s : Dk} (h : Good s) : (lastL s).2.2 = 0 ∧ isSeg (lastL s).1 = true ∧ ((lastL s).1 ∈ s.L.map AF.name ∨ s.L = []) := by
  unfold lastL
  cases hl : (segsL s.L).getLast? with
  | none =>
    have : segsL s.L = [] := List.getLast?_eq_none_iff.1 hl
    have h2 := h.len
    rw [this] at h2
    exact ⟨rfl, isSeg_segN (n := 1) (by omega) (by omega), .inr (List.length_eq_zero_iff.1 h2.symm)⟩
  | some n =>
    obtain ⟨h1, h2, h3⟩ := (segsL_in h.ok).2 n (List.mem_of_getLast? hl)
    obtain ⟨f, hf, hr⟩ := rd_in h.alive h.ok h3
    exact ⟨by simp only; rw [hr], h2, .inl h3⟩
theorem Good.room {s : Dk} (h : Good s) : (roomL s).2.2 = 0 ∧ isSeg (roomL s).1 = true ∧ ((roomL s).1 ∈ s.L.map AF.name ∨ s.L.length < 20) := by
  obtain ⟨h1, h2, h3⟩ := h.last
  unfold roomL
  by_cases hf : fullL s
  · rw [if_pos hf]
    exact ⟨h1, h2, h3.imp id (fun e => by rw [e]; simp)⟩
  · rw [if_neg hf]
    have hlt : ¬ 20 ≤ (segsL s.L).length := fun e => hf (.inr (.inr (.inr e)))
    have hne : ¬ segV (lastL s).1 = 999999 := fun e => hf (.inr (.inr (.inl e)))
    have hle := segV_le (lastL s).1
    rw [h.len] at hlt
    exact ⟨rfl, isSeg_segN (by omega) (by omega), .inr (by omega)⟩
theorem seg_isName {n : List UInt8} (h : isSeg n = true) : isName n = true := by
  unfold isSeg at h
  obtain ⟨h1, h2, h3⟩ := segV_name (l := n) (by simpa using h)
  rw [h1]
  exact isName_segN h3
theorem spends_full {s : Dk} (h : s.fuse < 0) (k : Dk → Dk) : spends s k = (k s, 0) := by
  unfold spends
  rw [if_neg (by omega), if_neg (by omega)]
theorem sz_upd {n : List UInt8} {g : AF → AF} {f : AF} : ∀ {L : List AF}, RiseK AF.key L → fndK AF.key n L = some f → sz (updK AF.key n g L) + f.data.length = sz L + (g f).data.length
  | [], _, h => by simp [fndK] at h
  | x :: r, hr, h => by
    obtain ⟨h1, h2⟩ := List.pairwise_cons.1 hr
    by_cases hx : AF.key x = n
    · have hf : f = x := by
        unfold fndK at h
        rw [List.find?_cons_of_pos (by simpa using hx)] at h
        exact (Option.some.inj h).symm
      subst hf
      have hr' : r.map (fun x => if AF.key x = n then g x else x) = r := by
        conv => rhs; rw [← List.map_id r]
        apply List.map_congr_left
        intro y hy
        rw [if_neg]
        · rfl
        · intro e
          have := h1 y hy
          rw [hx, e] at this
          exact blt_irrefl _ this
      simp only [updK, List.map_cons]
      rw [if_pos hx, hr', sz_cons, sz_cons]; omega
    · have hf : fndK AF.key n r = some f := by
        unfold fndK at h ⊢
        rwa [List.find?_cons_of_neg (by simpa using hx)] at h
      have := sz_upd (g := g) h2 hf
      unfold updK at *
      simp only [List.map_cons]
      rw [if_neg hx, sz_cons, sz_cons]; omega
/-- What laying bytes into a segment does. -/
theorem Good.write {s : Dk} (h : Good s) {n : List UInt8} (hn : isSeg n = true) (hl : n ∈ s.L.map AF.name ∨ s.L.length < 20) (d : List UInt8) :
    (wrL s n d = (s, 6) ∧ s.most - sz s.L < (d.length : Int)) ∨ ((wrL s n d).2 = 0 ∧ Good (wrL s n d).1 ∧ sz (wrL s n d).1.L = sz s.L + d.length ∧ (wrL s n d).1.most = s.most) := by
  have hnm := seg_isName hn
  by_cases hroom : s.most - sz s.L < (d.length : Int)
  · left
    have happ : app s n d = (s, 6) := by
      unfold app
      rw [if_neg (by rw [h.alive]; simp), if_neg (by simp [hnm])]
      cases hf : fndK AF.key n s.L with
      | none =>
        simp only
        rw [if_neg, if_pos hroom]
        rcases hl with hl | hl
        · obtain ⟨f, hf2, _⟩ := rd_in h.alive h.ok hl
          rw [hf2] at hf; cases hf
        · omega
      | some f => simp only; rw [if_pos hroom]
    refine ⟨?_, hroom⟩
    unfold wrL
    rw [happ]
    rfl
  · right
    -- what Append makes
    have happ : ∃ L', app s n d = ({ s with L := L' }, 0) ∧ (∃ f, fndK AF.key n L' = some f) ∧ sz L' = sz s.L + d.length ∧ (∀ f ∈ L', isSeg f.name = true) ∧ L'.length ≤ 20 := by
      unfold app
      rw [if_neg (by rw [h.alive]; simp), if_neg (by simp [hnm])]
      cases hf : fndK AF.key n s.L with
      | none =>
        have hlt : s.L.length < 20 := by
          rcases hl with hl | hl
          · obtain ⟨f, hf2, _⟩ := rd_in h.alive h.ok hl
            rw [hf2] at hf; cases hf
          · exact hl
        simp only
        rw [if_neg (by omega), if_neg hroom, spends_full h.fuse]
        refine ⟨_, rfl, ⟨newF n d, ?_⟩, ?_, ?_, ?_⟩
        · exact fndK_of_mem (insK_rise h.ok.rise (fun x hx => fndK_none hf x hx)) (x := newF n d) (insK_mem.2 (.inl rfl))
        · rw [sz_ins]; show d.length + _ = _; omega
        · intro f hfm
          rcases insK_mem.1 hfm with rfl | hfm
          · exact hn
          · exact h.segs f hfm
        · rw [insK_length]; omega
      | some f =>
        simp only
        rw [if_neg hroom, spends_full h.fuse]
        refine ⟨_, rfl, ⟨addF d f, ?_⟩, ?_, ?_, ?_⟩
        · rw [fndK_upd (key := AF.key) (g := addF d) (fun _ => rfl), if_pos rfl, hf]; rfl
        · have := sz_upd (g := addF d) h.ok.rise hf
          simp only [addF, List.length_append] at this
          omega
        · intro x hx
          rcases upd_mem hx with hx | ⟨y, hy, _, rfl⟩
          · exact h.segs x hx
          · exact h.segs y hy
        · rw [updK_length]; exact h.few
    obtain ⟨L', happ, ⟨f, hf⟩, hz, hs, hfew⟩ := happ
    have hok : ({ s with L := L' } : Dk).Ok := by
      have := Ok_app h.ok n d
      rw [happ] at this; exact this
    have hsyn : syn { s with L := L' } n = ({ s with L := updK AF.key n syncF L' }, 0) := by
      have hd' : ({ s with L := L' } : Dk).dead = false := h.alive
      unfold syn need
      rw [if_neg (by rw [hd']; simp)]
      show (match fndK AF.key n L' with | none => _ | some f => _) = _
      rw [hf]
      exact spends_full (s := { s with L := L' }) h.fuse _
    have hok2 : ({ s with L := updK AF.key n syncF L' } : Dk).Ok := by
      have := Ok_syn hok n
      rw [hsyn] at this; exact this
    have hw : wrL s n d = ({ s with L := updK AF.key n syncF L' }, 0) := by
      unfold wrL
      rw [happ]
      simp only [if_true]
      exact hsyn
    rw [hw]
    refine ⟨rfl, ⟨h.alive, h.fuse, hok2, ?_, ?_⟩, ?_, rfl⟩
    · intro x hx
      rcases upd_mem hx with hx | ⟨y, hy, _, rfl⟩
      · exact hs x hx
      · exact hs y hy
    · show (updK _ _ _ _).length ≤ 20
      rw [updK_length]; exact hfew
    · have := sz_upd (g := syncF) hok.rise hf
      show sz (updK _ _ _ _) = _
      simp only [syncF] at this
      omega

/-- What Save does to a good disk: it is refused, or full, or done. -/
theorem Good.save {s : Dk} (h : Good s) (g : Lg) (hd : Hd) (l : List En) :
    (saveL s g hd l = (s, g, 1) ∧ (l.all entB = false ∨ hdB hd = false)) ∨ (saveL s g hd l = (s, g, 0) ∧ l = [] ∧ hd = g.hd) ∨ (saveL s g hd l = (s, g, 6) ∧ s.most - sz s.L < ((hdRec s (roomL s).2.1 g hd ++ entRecs l).length : Int)) ∨
    ((saveL s g hd l).2 = (⟨hd, putEs g.L l⟩, 0) ∧ Good (saveL s g hd l).1 ∧ l.all entB = true ∧ hdB hd = true ∧ sz (saveL s g hd l).1.L = sz s.L + (hdRec s (roomL s).2.1 g hd ++ entRecs l).length ∧ (saveL s g hd l).1.most = s.most) := by
  unfold saveL
  by_cases h1 : l.all entB = false ∨ hdB hd = false
  · rw [if_pos h1]; exact .inl ⟨rfl, h1⟩
  · rw [if_neg h1]
    by_cases h2 : l = [] ∧ hd = g.hd
    · rw [if_pos h2]; exact .inr (.inl ⟨rfl, h2⟩)
    · rw [if_neg h2, h.alive, if_neg (by simp)]
      obtain ⟨r1, r2, r3⟩ := h.room
      rw [if_neg (by simp [r1])]
      unfold laid
      rcases h.write r2 r3 (hdRec s (roomL s).2.1 g hd ++ entRecs l) with ⟨hw, hsz⟩ | ⟨w1, w2, w3, w4⟩
      · rw [hw]
        exact .inr (.inr (.inl ⟨rfl, hsz⟩))
      · rw [w1]
        refine .inr (.inr (.inr ⟨rfl, w2, ?_, ?_, w3, w4⟩))
        · cases hh : l.all entB with
          | true => rfl
          | false => exact absurd (.inl hh) h1
        · cases hh : hdB hd with
          | true => rfl
          | false => exact absurd (.inr hh) h1
theorem Good.reset {s : Dk} (h : Good s) (g : Lg) : (resetL s g = (s, g, 6) ∧ s.most - sz s.L < (((if (lastL s).2.1 = 0 then rcL (.hard g.hd) else []) ++ rcL .reset).length : Int)) ∨ ((resetL s g).2 = (⟨g.hd, []⟩, 0) ∧ Good (resetL s g).1 ∧ (resetL s g).1.most = s.most) := by
  unfold resetL
  obtain ⟨r1, r2, r3⟩ := h.last
  rw [h.alive, if_neg (by simp), if_neg (by simp [r1])]
  unfold laid
  rcases h.write r2 (r3.imp id (fun e => by rw [e]; simp)) ((if (lastL s).2.1 = 0 then rcL (.hard g.hd) else []) ++ rcL .reset) with ⟨hw, hsz⟩ | ⟨w1, w2, w3, w4⟩
  · rw [hw]
    exact .inl ⟨rfl, hsz⟩
  · rw [w1]
    exact .inr ⟨rfl, w2, w4⟩
end Go.Proofs.YtbidglefddmjhaaGreatDoor

