/-
  LAYER 6 (net): what a net is, as lists; THE DOCUMENT's ANSWER: how it lies in memory; is, in, Apart, out.
-/
import Derived.Test.YtclkhkoappjgdaaGInts
import Derived.Deep.RegionLaw
namespace Go.Proofs.Ytclkhkoappjgdaa
open Go.RowKit
set_option linter.unusedVariables false
set_option maxRecDepth 100000

/-- A letter. -/
structure Lt where
  fr : Int
  to_ : Int
  dt : ByteArray
/-- A net: the letters on their way, the group, how many were lost. -/
structure Nt where
  L : List Lt
  G : List Int
  lost : Nat
def outL (L : List Lt) (k : Nat) : List Lt := L.take k ++ L.drop (k + 1)
theorem outL_len {L : List Lt} {k : Nat} (hk : k < L.length) : (outL L k).length = L.length - 1 := by
  unfold outL
  rw [List.length_append, List.length_take, List.length_drop]; omega
def Nt.out (s : Nt) (k : Nat) : Nt := { s with L := outL s.L k }
def Nt.send (s : Nt) (x : Lt) : Nt := if 300 ≤ s.L.length then ⟨outL s.L 0 ++ [x], s.G, s.lost + 1⟩ else { s with L := s.L ++ [x] }
def Nt.apart (s : Nt) (a b : Int) : Bool := decide (a ∈ s.G) != decide (b ∈ s.G)
def ltCells (x : Lt) : List Value := [.int .i64 x.fr, .int .i64 x.to_, .string x.dt]
/-- The document's letters. -/
def rlTy : RowTy Lt := ⟨28, 36, 3, 32, ltCells, .agg #[.int .i64 0, .int .i64 0, .string ⟨#[]⟩]⟩
theorem rlTy_ok : rlTy.Ok := ⟨fun _ => rfl, fun x u hu => by simp [rlTy, ltCells] at hu; rcases hu with rfl | rfl | rfl <;> rfl, by decide, Try.underlying28, by kernel_rfl, by kernel_rfl, rfl, by decide⟩
theorem RAt.keep {α : Type} {R : RowTy α} {w w' : World} {v : Value} {L : List α} (h : RAt R w v L) (hs : L ≠ [] → ∀ b, v.ownBlock = some b → b < w.heap.size → w'.heap[b]? = w.heap[b]?) (hz : w.heap.size ≤ w'.heap.size) : RAt R w' v L := by
  by_cases hL : L = []
  · subst hL
    obtain ⟨a, cap, rfl, h1, h2, h3, _⟩ := h
    exact ⟨a, cap, rfl, h1, h2, h3, fun h => absurd rfl h⟩
  · exact h.same (hs hL) hz
/-- The document's net at r. (An empty group's address may be any.) -/
structure RNet (w : World) (r : Nat) (lv gv : Value) (s : Nt) : Prop where
  head : own w r #[lv, gv, .int .i64 (s.lost : Int)] 31
  row : RAt rlTy w lv s.L
  grp : RAt numTy w gv s.G
  ap1 : lv.ownBlock ≠ some r
  ap2 : s.G ≠ [] → gv.ownBlock ≠ some r
  ll : s.L.length ≤ 1000
  gl : s.G.length ≤ 1000
  lo : s.lost ≤ 100000
  lt : ∀ b, lv.ownBlock = some b → b < w.heap.size
theorem RNet.same {w w' : World} {r : Nat} {lv gv : Value} {s : Nt} (h : RNet w r lv gv s) (hz : w.heap.size ≤ w'.heap.size) (hs : ∀ b, b = r ∨ lv.ownBlock = some b ∨ (s.G ≠ [] ∧ gv.ownBlock = some b) → b < w.heap.size → w'.heap[b]? = w.heap[b]?) : RNet w' r lv gv s :=
  ⟨h.head.same (hs r (.inl rfl) h.head.lt), h.row.same (fun b e hl => hs b (.inr (.inl e)) hl) hz, h.grp.keep (fun hG b e hl => hs b (.inr (.inr ⟨hG, e⟩)) hl) hz, h.ap1, h.ap2, h.ll, h.gl, h.lo, fun b e => Nat.lt_of_lt_of_le (h.lt b e) hz⟩
theorem RNet.below {w w' : World} {r : Nat} {lv gv : Value} {s : Nt} (h : RNet w r lv gv s) (hb : Below w.heap.size w w') : RNet w' r lv gv s := h.same hb.size (fun b _ hl => hb.block b hl)
/-- What a call that turns the net leaves: only its own block has turned; a row of letters anew. -/
structure RTurn (w w' : World) (r : Nat) (lv lv' gv : Value) (s' : Nt) : Prop where
  is : RNet w' r lv' gv s'
  chg : Chg (fun b => b = r) w w'
  new : ∀ b, lv'.ownBlock = some b → lv.ownBlock = some b ∨ (w.heap.size ≤ b ∧ b < w'.heap.size)
theorem RTurn.of_below {w w' : World} {r : Nat} {lv gv : Value} {s : Nt} (h : RNet w r lv gv s) (hb : Below w.heap.size w w') : RTurn w w' r lv lv gv s := ⟨h.below hb, Chg.of_below hb, fun _ e => .inl e⟩
theorem RTurn.trans {w w1 w2 : World} {r : Nat} {lv lv1 lv2 gv : Value} {s1 s2 : Nt} (h : RTurn w w1 r lv lv1 gv s1) (k : RTurn w1 w2 r lv1 lv2 gv s2) : RTurn w w2 r lv lv2 gv s2 :=
  ⟨k.is, h.chg.trans k.chg (fun _ e => .inl e), fun b e => by
    have z1 := h.chg.size
    have z2 := k.chg.size
    rcases k.new b e with e | e
    · rcases h.new b e with e | e
      · exact .inl e
      · exact .inr ⟨e.1, by omega⟩
    · exact .inr ⟨by omega, e.2⟩⟩
section
variable {w : World} {r : Nat} {lv gv : Value} {s : Nt}
theorem rIs_any (h : RNet w r lv gv s) (k : Int) :
    Calls Try.prog 38 #[.pointer (some ⟨r, 0, none⟩), .int .i64 k] w fun e w' => e = .returned (.bool (decide (0 ≤ k ∧ k < (s.L.length : Int)))) ∧ w = w' := by
  obtain ⟨ao, cap, rfl, _⟩ := h.row.at rlTy_ok
  have c0 : w.cell? ⟨r, 0, none⟩ = some (.slice ao s.L.length cap) := (h.head.cell 0).trans rfl
  by_cases h0 : 0 ≤ k
  · have e : decide (0 ≤ k ∧ k < (s.L.length : Int)) = decide (k < (s.L.length : Int)) := by simp [h0]
    rw [e]
    clear e h
    go_enter Try.func38, Try.ntmps38
    go_wp2
    go_ret
    exact ⟨rfl, rfl⟩
  · have e : decide (0 ≤ k ∧ k < (s.L.length : Int)) = false := decide_eq_false (by omega)
    rw [e]
    have hk : k < 0 := by omega
    clear e h h0
    go_enter Try.func38, Try.ntmps38
    go_wp2
    go_ret
    exact ⟨rfl, rfl⟩
theorem rIn_any (h : RNet w r lv gv s) (n : Int) :
    Calls Try.prog 34 #[.pointer (some ⟨r, 0, none⟩), .int .i64 n] w fun e w' => e = .returned (.bool (decide (n ∈ s.G))) ∧ w = w' := by
  obtain ⟨ao, cap, rfl, hat⟩ := nums_at h.grp
  have hgl := h.gl
  have c0 : w.cell? ⟨r, 1, none⟩ = some (.slice ao s.G.length cap) := (h.head.cell 1).trans rfl
  obtain ⟨b, hb⟩ : ∃ b, decide (n ∈ s.G) = b := ⟨_, rfl⟩
  rw [hb]
  have HB := hid hb
  have HA := hid hat
  clear hb hat h
  generalize s.G = xs at *
  go_enter Try.func34, Try.ntmps34
  go_wp2
  go_loop [5] (fun i => ∃ k : Nat, k ≤ xs.length ∧ i = .int .i64 k ∧ Hid (n ∉ xs.take k)) (fun i => xs.length - (intOf i).toNat)
  case atStart => exact ⟨0, Nat.zero_le _, rfl, hid (by simp)⟩
  case round =>
    obtain ⟨k, hk, rfl, hT⟩ := hrel
    by_cases hkl : k < xs.length
    · obtain ⟨sa, oa, rfl, hsa, c1⟩ := HA.out k hkl
      have hkI : (k : Int) < (xs.length : Int) := by omega
      have hx : xs.getD k 0 = xs[k] := by simp [List.getD, hkl]
      have HM : Hid (xs.getD k 0 ∈ xs) := hid (by rw [hx]; exact List.getElem_mem hkl)
      have HS : Hid (xs.getD k 0 ≠ n → n ∉ xs.take (k + 1)) := hid (fun hne => by
        rw [hx] at hne
        rw [List.take_add_one, List.getElem?_eq_getElem hkl]
        simp only [Option.toList, List.mem_append, List.mem_singleton, not_or]
        exact ⟨hT.out, fun e => hne e.symm⟩)
      clear hx
      generalize xs.getD k 0 = x at *
      by_cases he : x = n
      · subst he
        have hqq : (x == x) = true := by simp
        obtain rfl : b = true := HB.out.symm.trans (decide_eq_true HM.out)
        go_wp2
        go_ret
        exact ⟨rfl, rfl⟩
      · have hqq : (x == n) = false := beq_eq_false_iff_ne.2 he
        go_wp2
        go_round
        case rel => exact ⟨k + 1, by omega, by go_num, hid (HS.out he)⟩
        case measure => simp [intOf]; omega
    · obtain rfl : k = xs.length := by omega
      obtain rfl : b = false := HB.out.symm.trans (decide_eq_false (by have := hT.out; rwa [List.take_length] at this))
      go_wp2
      go_ret
      exact ⟨rfl, rfl⟩
theorem rApart_any (h : RNet w r lv gv s) (a b : Int) :
    Calls Try.prog 20 #[.pointer (some ⟨r, 0, none⟩), .int .i64 a, .int .i64 b] w fun e w' => e = .returned (.bool (s.apart a b)) ∧ w = w' := by
  have H1 := hid (fun n => rIn_any h n)
  unfold Nt.apart
  clear h
  go_enter Try.func20, Try.ntmps20
  go_wp2_with (go_at_call 34; (with_reducible refine (H1.out _).mono ?_); rintro e w1 ⟨rfl, rfl⟩)
  go_ret
  exact ⟨rfl, rfl⟩
end
end Go.Proofs.Ytclkhkoappjgdaa
