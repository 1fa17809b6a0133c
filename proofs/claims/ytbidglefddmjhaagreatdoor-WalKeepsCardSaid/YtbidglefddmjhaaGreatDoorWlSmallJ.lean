import Derived.Test.YtbidglefddmjhaaGreatDoorWlActMJ
import Derived.Test.YtbidglefddmjhaaGreatDoorMq2J
import Derived.Test.YtbidglefddmjhaaGreatDoorMq0J
/-
  LAYER 3 (wal), the laws' own helpers: the acts that came in: small.
-/
namespace Go.Proofs.YtbidglefddmjhaaGreatDoor
open Go.RowKit Go.Maps
set_option linter.unusedVariables false
set_option maxRecDepth 100000

/-- One act in memory. -/
structure WaAt (w : World) (B b o : Nat) (a : Wa) (kv nv : Value) : Prop where
  c0 : w.cell? ⟨b, o, none⟩ = some (.int .i64 a.op)
  c1 : w.cell? ⟨b, o + 1, none⟩ = some (.int .i64 a.term)
  c2 : w.cell? ⟨b, o + 2, none⟩ = some (.int .i64 a.vote)
  c3 : w.cell? ⟨b, o + 3, none⟩ = some (.int .i64 a.idx)
  c4 : w.cell? ⟨b, o + 4, none⟩ = some (.int .i64 a.n)
  c5 : w.cell? ⟨b, o + 5, none⟩ = some (.string a.data)
  c6 : w.cell? ⟨b, o + 6, none⟩ = some kv
  c7 : w.cell? ⟨b, o + 7, none⟩ = some nv
  k : IntsAt w B kv a.keep
  n : IntsAt w B nv a.noise
def WasAt (w : World) (B : Nat) (v : Value) (l : List Wa) : Prop :=
  ∃ a cap, v = .slice a l.length cap ∧ (l ≠ [] → ∃ b o, a = some ⟨b, o, none⟩ ∧ b < B ∧ ∀ i ac, l[i]? = some ac → ∃ kv nv, WaAt w B b (o + i * 8) ac kv nv)
theorem WaAt.same {w w' : World} {B b o : Nat} {a : Wa} {kv nv : Value} (h : WaAt w B b o a kv nv) (hb : b < B) (hs : ∀ b, b < B → w'.heap[b]? = w.heap[b]?) : WaAt w' B b o a kv nv := by
  have hc : ∀ k, w'.cell? ⟨b, k, none⟩ = w.cell? ⟨b, k, none⟩ := fun k => World.cell?_of_block (hs b hb)
  exact ⟨(hc _).trans h.c0, (hc _).trans h.c1, (hc _).trans h.c2, (hc _).trans h.c3, (hc _).trans h.c4, (hc _).trans h.c5, (hc _).trans h.c6, (hc _).trans h.c7, h.k.same hs, h.n.same hs⟩
theorem WasAt.below {w w' : World} {v : Value} {l : List Wa} {B : Nat} (h : WasAt w B v l) (hb : Below B w w') : WasAt w' B v l := by
  obtain ⟨a, cap, rfl, hc⟩ := h
  refine ⟨a, cap, rfl, fun hne => ?_⟩
  obtain ⟨b, o, rfl, hbB, hact⟩ := hc hne
  refine ⟨b, o, rfl, hbB, fun i ac hi => ?_⟩
  obtain ⟨kv, nv, hA⟩ := hact i ac hi
  exact ⟨kv, nv, hA.same hbB (fun b hb' => hb.block b hb')⟩
theorem ret_bool3 {a b : Bool} (h : a = b) : Ending.returned (.bool a) = .returned (.bool b) := by rw [h]

def waOk (a : Wa) : Bool := decide (a.data.size ≤ 700 ∧ a.keep.length ≤ 60 ∧ a.noise.length ≤ 60)
def smallW (l : List Wa) : Bool := decide (l.length ≤ 40) && l.all waOk
theorem smallW_ok {l : List Wa} (h : smallW l = true) (hin : ∀ a ∈ l, WaIn a) : l.length ≤ 40 ∧ ∀ a ∈ l, WaOk a := by
  unfold smallW at h
  simp only [Bool.and_eq_true, decide_eq_true_eq, List.all_eq_true] at h
  refine ⟨h.1, fun a ha => ?_⟩
  have h1 := h.2 a ha
  unfold waOk at h1
  simp only [decide_eq_true_eq] at h1
  have h2 := hin a ha
  exact ⟨h2.op, h2.term, h2.vote, h2.idx, h2.n, h2.kr, h2.nr, h1.1, h1.2.1, h1.2.2⟩
theorem allW_snoc {l : List Wa} {k : Nat} (hk : k < l.length) (h : (l.take k).all waOk = true) (hc : waOk l[k] = true) : (l.take (k + 1)).all waOk = true := by
  rw [List.take_succ_eq_append_getElem hk, List.all_append, h]
  simp [hc]
theorem allW_bad {l : List Wa} {k : Nat} (hk : k < l.length) (h : waOk l[k] = false) : smallW l = false := by
  unfold smallW
  have : l.all waOk = false := by
    rw [List.all_eq_false]
    exact ⟨l[k], List.getElem_mem hk, by rw [h]; simp⟩
  rw [this]; simp

set_option maxHeartbeats 4000000 in
theorem small3_any (v : Value) (l : List Wa) (w : World) (B : Nat) (hv : WasAt w B v l) (hin : ∀ a ∈ l, WaIn a) (hl : l.length ≤ maxLen) :
    Calls Tryz.prog 12 #[v] w fun e w' => e = .returned (.bool (smallW l)) ∧ w = w' := by
  obtain ⟨a0, cap, rfl, hc⟩ := hv
  unfold maxLen at hl
  by_cases h80 : 40 < l.length
  · have : smallW l = false := by unfold smallW; simp; omega
    rw [this]
    clear hc this
    go_enter Tryz.func12, Tryz.ntmps12
    go_wp2
    go_ret
    exact ⟨rfl, rfl⟩
  · have HC := hid hc
    have HI := hid hin
    clear hc hin
    have hq : decide (40 < (l.length : Int)) = false := by simp; omega
    go_enter Tryz.func12, Tryz.ntmps12
    go_wp2
    go_loop [3] (fun i => ∃ k : Nat, k ≤ l.length ∧ i = .int .i64 k ∧ Hid ((l.take k).all waOk = true)) (fun i => l.length - (intOf i).toNat)
    case atStart => exact ⟨0, Nat.zero_le _, rfl, hid (by simp)⟩
    case round =>
      obtain ⟨k, hk, rfl, hall⟩ := hrel
      by_cases hlt : k < l.length
      · have hne : l ≠ [] := fun e => by rw [e] at hlt; simp at hlt
        obtain ⟨b, o, rfl, hbB, hact⟩ := HC.out hne
        obtain ⟨kv, nv, hA⟩ := hact k l[k] (by simp [hlt])
        have hI := HI.out l[k] (List.getElem_mem hlt)
        obtain ⟨ka, kc, rfl, _⟩ := id hA.k
        obtain ⟨na, nc, rfl, _⟩ := id hA.n
        have d5 := hA.c5
        have d6 := hA.c6
        have d7 := hA.c7
        have i3 := hI.data
        have i4 := hI.keep
        have i5 := hI.noise
        unfold maxLen at i3 i4 i5
        have hsnoc := hid (allW_snoc hlt hall.out)
        have hbad := hid (allW_bad hlt)
        clear hact hA hI hne HC
        have hokd : ∀ x, waOk x = decide (x.data.size ≤ 700 ∧ x.keep.length ≤ 60 ∧ x.noise.length ≤ 60) := fun _ => rfl
        rw [hokd] at hsnoc hbad
        generalize l[k].data = x1 at *
        generalize l[k].keep = x4 at *
        generalize l[k].noise = x5 at *
        have hklen : k < 40 := by omega
        clear hokd
        by_cases h1 : x1.size ≤ 700
        · by_cases h4 : x4.length ≤ 60
          · by_cases h5 : x5.length ≤ 60
            · have HS := hid (hsnoc.out (decide_eq_true ⟨h1, h4, h5⟩))
              clear hsnoc hbad
              have q1 : decide (700 < (x1.size : Int)) = false := by simp; omega
              have q4 : decide (60 < (x4.length : Int)) = false := by simp; omega
              have q5 : decide (60 < (x5.length : Int)) = false := by simp; omega
              go_wp2
              go_round
              case rel => exact ⟨k + 1, by omega, by go_num, HS⟩
              case measure => simp [intOf]; omega
            · have HS := hid (hbad.out (decide_eq_false (fun hh => h5 (by omega))))
              clear hsnoc hbad
              have q1 : decide (700 < (x1.size : Int)) = false := by simp; omega
              have q4 : decide (60 < (x4.length : Int)) = false := by simp; omega
              have q5 : decide (60 < (x5.length : Int)) = true := by simp; omega
              go_wp2
              go_ret
              exact ⟨ret_bool3 HS.out.symm, rfl⟩
          · have HS := hid (hbad.out (decide_eq_false (fun hh => h4 (by omega))))
            clear hsnoc hbad
            have q1 : decide (700 < (x1.size : Int)) = false := by simp; omega
            have q4 : decide (60 < (x4.length : Int)) = true := by simp; omega
            go_wp2
            go_ret
            exact ⟨ret_bool3 HS.out.symm, rfl⟩
        · have HS := hid (hbad.out (decide_eq_false (fun hh => h1 (by omega))))
          clear hsnoc hbad
          have q1 : decide (700 < (x1.size : Int)) = true := by simp; omega
          go_wp2
          go_ret
          exact ⟨ret_bool3 HS.out.symm, rfl⟩
      · obtain rfl : k = l.length := by omega
        have : smallW l = true := by
          have h1 := hall.out
          rw [List.take_of_length_le (Nat.le_refl _)] at h1
          unfold smallW; rw [h1]; simp; omega
        have HT := hid this
        clear this hall
        go_wp2
        go_ret
        exact ⟨by rw [HT.out]; rfl, rfl⟩
end Go.Proofs.YtbidglefddmjhaaGreatDoor

