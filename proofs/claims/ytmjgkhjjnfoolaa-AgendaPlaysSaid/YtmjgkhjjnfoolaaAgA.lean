/-
  LAYER 5 (agenda): the queue: Len, look, find, Less.
-/
import Derived.Test.YtmjgkhjjnfoolaaAgRep
import Derived.StillTailTactics
import Derived.Deep.RegionHeld3
namespace Go.Proofs.Ytmjgkhjjnfoolaa
open Go.RowKit Go.Maps
set_option linter.unusedVariables false
set_option maxRecDepth 100000

def MapOk (w : World) (mv : Value) (L : List It) : Prop := (mv = .map none ∧ L = []) ∨ ∃ m D, mv = .map (some m) ∧ PMap w m D ∧ Places D L
structure QRep (w : World) (p : Nat) (v mv : Value) (L : List It) : Prop where
  head : own w p #[v, mv] 58
  row : ItRow w v L
  map : MapOk w mv L
  ap1 : v.ownBlock ≠ some p
  ap2 : ∀ m, mv = .map (some m) → m ≠ p ∧ v.ownBlock ≠ some m
  ids : (L.map Prod.snd).Nodup
  inr : ∀ x ∈ L, InR x
  len : L.length ≤ 1000
/-- The blocks of an agenda. -/
def Foot (p : Nat) (v mv : Value) : Nat → Prop := fun b => b = p ∨ v.ownBlock = some b ∨ mv = .map (some b)
theorem MapOk.same {w w' : World} {mv : Value} {L : List It} (h : MapOk w mv L) (hs : ∀ b, mv = .map (some b) → w'.heap[b]? = w.heap[b]?) : MapOk w' mv L := by
  rcases h with h | ⟨m, D, rfl, hm, hp⟩
  · exact .inl h
  · exact .inr ⟨m, D, rfl, hm.same (hs m rfl), hp⟩
theorem QRep.same {w w' : World} {p : Nat} {v mv : Value} {L : List It} (h : QRep w p v mv L) (hs : ∀ b, Foot p v mv b → w'.heap[b]? = w.heap[b]?) : QRep w' p v mv L :=
  ⟨h.head.same (hs p (.inl rfl)), h.row.same (fun b hb => hs b (.inr (.inl hb))), h.map.same (fun b hb => hs b (.inr (.inr hb))), h.ap1, h.ap2, h.ids, h.inr, h.len⟩
theorem QRep.lt {w : World} {p : Nat} {v mv : Value} {L : List It} (h : QRep w p v mv L) : ∀ b, Foot p v mv b → b < w.heap.size := by
  intro b hb
  rcases hb with rfl | hb | hb
  · exact h.head.lt
  · exact (World.ownsRow.lt h.row b hb).2
  · rcases h.map with ⟨e, _⟩ | ⟨m, D, e, hm, _⟩
    · rw [e] at hb; cases hb
    · rw [e] at hb; cases hb; exact World.ownsMap.lt hm
theorem QRep.below {w w' : World} {p : Nat} {v mv : Value} {L : List It} (h : QRep w p v mv L) (hb : Below w.heap.size w w') : QRep w' p v mv L := h.same (fun b hf => hb.block b (h.lt b hf))
theorem QRep.drew {w : World} {p : Nat} {v mv : Value} {L : List It} (h : QRep w p v mv L) : QRep w.drew p v mv L := h.same (fun _ _ => rfl)

theorem qlen_any {w : World} {p : Nat} {v mv : Value} {L : List It} (h : QRep w p v mv L) :
    Calls Try.prog 28 #[.pointer (some ⟨p, 0, none⟩)] w fun e w' => e = .returned (.int .i64 (L.length : Int)) ∧ w = w' := by
  obtain ⟨ao, cap, rfl, hcap, _, _⟩ := h.row.slice
  have c0 : w.cell? ⟨p, 0, none⟩ = some (.slice ao L.length cap) := (h.head.cell 0).trans rfl
  clear h
  go_enter Try.func28, Try.ntmps28
  go_wp2
  go_ret
  exact ⟨rfl, rfl⟩
theorem look_any {w : World} {p : Nat} {v mv : Value} {L : List It} (h : QRep w p v mv L) (k : Nat) (hk : k < L.length) :
    Calls Try.prog 26 #[.pointer (some ⟨p, 0, none⟩), .int .i64 (k : Int)] w fun e w' => e = .returned (.agg #[.int .i64 (gt L k).1, .int .i64 (gt L k).2]) ∧ Below w.heap.size w w' := by
  obtain ⟨ao, cap, rfl, hcap, _, _⟩ := h.row.slice
  have hlen := h.len
  obtain ⟨g, rfl, hg, hcs, _⟩ := h.row.at (by omega)
  obtain ⟨c1, c2⟩ := hcs k hk
  have c0 : w.cell? ⟨p, 0, none⟩ = some (.slice (some ⟨g, 0, none⟩) L.length cap) := (h.head.cell 0).trans rfl
  have hp := h.head.lt
  clear h hcs
  have hkI : (k : Int) < (L.length : Int) := by omega
  generalize (gt L k).1 = a at *
  generalize (gt L k).2 = b at *
  generalize L.length = n at *
  go_enter Try.func26, Try.ntmps26
  go_wp2
  exact bodyPost_ret (v := .agg #[.int .i64 a, .int .i64 b]) (by simp [results, Try.results26, go_sem]) rfl ⟨rfl, (Below.refl _ _).alloc (Nat.le_refl _) _⟩
theorem before_any (x y : It) (w : World) :
    Calls Try.prog 48 #[.agg #[.int .i64 x.1, .int .i64 x.2], .agg #[.int .i64 y.1, .int .i64 y.2]] w fun e w' => e = .returned (.bool (bf x y)) ∧ Below w.heap.size w w' := by
  obtain ⟨a, b⟩ := x
  obtain ⟨c, d⟩ := y
  by_cases h : a = c
  · subst h
    have hr : bf (a, b) (a, d) = decide (b < d) := by simp [bf]
    rw [hr]
    have hq : (a != a) = false := by simp
    clear hr
    go_enter Try.func48, Try.ntmps48
    go_wp2
    go_ret
    exact ⟨rfl, ((Below.refl _ _).alloc (Nat.le_refl _) _).alloc (by simp) _⟩
  · have hr : bf (a, b) (c, d) = decide (a < c) := by simp [bf, h]
    rw [hr]
    have hq : (a != c) = true := by simp [h]
    clear hr h
    go_enter Try.func48, Try.ntmps48
    go_wp2
    go_ret
    exact ⟨rfl, ((Below.refl _ _).alloc (Nat.le_refl _) _).alloc (by simp) _⟩
theorem less_any {w : World} {p : Nat} {v mv : Value} {L : List It} (h : QRep w p v mv L) (i j : Nat) (hi : i < L.length) (hj : j < L.length) :
    Calls Try.prog 49 #[.pointer (some ⟨p, 0, none⟩), .int .i64 (i : Int), .int .i64 (j : Int)] w fun e w' => e = .returned (.bool (bf (gt L i) (gt L j))) ∧ Below w.heap.size w w' := by
  obtain ⟨ao, cap, rfl, hcap, _, _⟩ := h.row.slice
  have hlen := h.len
  obtain ⟨g, rfl, hg, hcs, _⟩ := h.row.at (by omega)
  obtain ⟨c1, c2⟩ := hcs i hi
  obtain ⟨c3, c4⟩ := hcs j hj
  have c0 : w.cell? ⟨p, 0, none⟩ = some (.slice (some ⟨g, 0, none⟩) L.length cap) := (h.head.cell 0).trans rfl
  have hp := h.head.lt
  clear h hcs
  have hiI : (i : Int) < (L.length : Int) := by omega
  have hjI : (j : Int) < (L.length : Int) := by omega
  have HB := hid (fun wx => before_any (gt L i) (gt L j) wx)
  generalize gt L i = x at *
  generalize gt L j = y at *
  generalize L.length = n at *
  go_enter Try.func49, Try.ntmps49
  go_wp2
  go_still_tail 14, (by kernel_rfl)
  change wpList _ _ _ _ _ w.drew
  go_wp2_with (go_at_call 48; (with_reducible refine (HB.out _).mono ?_); rintro e w1 ⟨rfl, hb1⟩)
  go_ret
  exact ⟨rfl, (Below.drew (Below.refl _ _)).trans hb1⟩
/-- find: where the item of a number stands. -/
theorem find_some {w : World} {p : Nat} {v mv : Value} {L : List It} (h : QRep w p v mv L) (k : Nat) (hk : k < L.length) (id : Int) (hid' : id = (gt L k).2) :
    Calls Try.prog 24 #[.pointer (some ⟨p, 0, none⟩), .int .i64 id] w fun e w' => e = .returned (.int .i64 (k : Int)) ∧ w = w' := by
  subst hid'
  have hr := h.inr _ (gt_mem hk)
  rcases h.map with ⟨_, e⟩ | ⟨m, D, rfl, hm, hP⟩
  · rw [e] at hk; simp at hk
  · obtain ⟨u, ps, hrun, hu⟩ := hm.look_ok keyedInt Try.underlying54 (zeroInt w) (zd := .lit (.int .i64 0)) (zp := []) (elInt (by unfold I64; omega)) (keyInt hr.2)
    obtain ⟨h1, h2⟩ := hP.at_ k hk
    rw [h1] at hrun
    rw [h2] at hu
    obtain ⟨c, rfl, hc, _⟩ := plainElem_int_inv Try.underlying3 hu
    simp only [Prod.mk.injEq, DataW.lit.injEq, Lit.int.injEq, true_and] at hc
    obtain ⟨hc, _⟩ := hc
    subst hc
    have c0 : w.cell? ⟨p, 1, none⟩ = some (.map (some m)) := (h.head.cell 1).trans rfl
    clear h hu h1 h2 hP hm hr
    generalize (gt L k).2 = q at *
    go_enter Try.func24, Try.ntmps24
    go_wp2
    go_ret
    exact ⟨rfl, rfl⟩
theorem find_none {w : World} {p : Nat} {v mv : Value} {L : List It} (h : QRep w p v mv L) (id : Int) (hr : I64 id) (hno : ∀ x ∈ L, x.2 ≠ id) :
    Calls Try.prog 24 #[.pointer (some ⟨p, 0, none⟩), .int .i64 id] w fun e w' => e = .returned (.int .i64 (-1)) ∧ w = w' := by
  have hrun : ∃ u, (Instr.lookup 54 mv (.int .i64 id) true).run Try.prog w = .ok (.tuple #[u, .bool false]) w := by
    rcases h.map with ⟨rfl, _⟩ | ⟨m, D, rfl, hm, hP⟩
    · exact ⟨_, Maps.look_nil true keyedInt Try.underlying54 (zeroInt w) (keyInt hr)⟩
    · obtain ⟨u, ps, hrun, hu⟩ := hm.look_ok keyedInt Try.underlying54 (zeroInt w) (zd := .lit (.int .i64 0)) (zp := []) (elInt (by unfold I64; omega)) (keyInt hr)
      rw [hP.no id hno] at hrun
      exact ⟨u, hrun⟩
  obtain ⟨u, hrun⟩ := hrun
  have c0 : w.cell? ⟨p, 1, none⟩ = some mv := (h.head.cell 1).trans rfl
  have hmv : ∃ mb, mv = .map mb := by
    rcases h.map with ⟨rfl, _⟩ | ⟨m, D, rfl, _⟩
    · exact ⟨_, rfl⟩
    · exact ⟨_, rfl⟩
  obtain ⟨mb, rfl⟩ := hmv
  clear h hno hr
  go_enter Try.func24, Try.ntmps24
  go_wp2
  go_ret
  exact ⟨rfl, rfl⟩
end Go.Proofs.Ytmjgkhjjnfoolaa
