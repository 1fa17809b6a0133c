/-
  LAYER 2 (disk), the laws' own helpers: the acts that came in: small, made.
-/
import Derived.Test.YtcinegkikahchaaDkK
namespace Go.Proofs.Ytcinegkikahchaa
open Go.RowKit Go.Maps
set_option linter.unusedVariables false
set_option maxRecDepth 100000

/-- One act in memory. -/
structure ActAt (w : World) (B b o : Nat) (a : Ac) (kv nv : Value) : Prop where
  c0 : w.cell? ⟨b, o, none⟩ = some (.int .i64 a.op)
  c1 : w.cell? ⟨b, o + 1, none⟩ = some (.int .i64 a.n)
  c2 : w.cell? ⟨b, o + 2, none⟩ = some (.string a.name)
  c3 : w.cell? ⟨b, o + 3, none⟩ = some (.string a.to)
  c4 : w.cell? ⟨b, o + 4, none⟩ = some (.string a.data)
  c5 : w.cell? ⟨b, o + 5, none⟩ = some kv
  c6 : w.cell? ⟨b, o + 6, none⟩ = some nv
  k : IntsAt w B kv a.keep
  n : IntsAt w B nv a.noise
/-- What is true of every act that came in. -/
structure AcIn (a : Ac) : Prop where
  op : -9223372036854775808 ≤ a.op ∧ a.op ≤ 9223372036854775807
  n : -9223372036854775808 ≤ a.n ∧ a.n ≤ 9223372036854775807
  name : a.name.size ≤ maxLen
  to : a.to.size ≤ maxLen
  data : a.data.size ≤ maxLen
  kr : ∀ n ∈ a.keep, -9223372036854775808 ≤ n ∧ n ≤ 9223372036854775807
  keep : a.keep.length ≤ maxLen
  noise : a.noise.length ≤ maxLen
def ActsAt (w : World) (B : Nat) (v : Value) (l : List Ac) : Prop :=
  ∃ a cap, v = .slice a l.length cap ∧ (l ≠ [] → ∃ b o, a = some ⟨b, o, none⟩ ∧ b < B ∧ ∀ i ac, l[i]? = some ac → ∃ kv nv, ActAt w B b (o + i * 7) ac kv nv)
theorem ActAt.same {w w' : World} {B b o : Nat} {a : Ac} {kv nv : Value} (h : ActAt w B b o a kv nv) (hb : b < B) (hs : ∀ b, b < B → w'.heap[b]? = w.heap[b]?) : ActAt w' B b o a kv nv := by
  have hc : ∀ k, w'.cell? ⟨b, k, none⟩ = w.cell? ⟨b, k, none⟩ := fun k => World.cell?_of_block (hs b hb)
  exact ⟨(hc _).trans h.c0, (hc _).trans h.c1, (hc _).trans h.c2, (hc _).trans h.c3, (hc _).trans h.c4, (hc _).trans h.c5, (hc _).trans h.c6, h.k.same hs, h.n.same hs⟩

def acOk (a : Ac) : Bool := decide (a.data.size ≤ 600 ∧ a.name.size ≤ 100 ∧ a.to.size ≤ 100 ∧ a.keep.length ≤ 60 ∧ a.noise.length ≤ 60)
def smallB (l : List Ac) : Bool := decide (l.length ≤ 80) && l.all acOk
theorem small_ok {l : List Ac} (h : smallB l = true) (hin : ∀ a ∈ l, AcIn a) : l.length ≤ 80 ∧ ∀ a ∈ l, AcOk a := by
  unfold smallB at h
  simp only [Bool.and_eq_true, decide_eq_true_eq, List.all_eq_true] at h
  refine ⟨h.1, fun a ha => ?_⟩
  have h1 := h.2 a ha
  unfold acOk at h1
  simp only [decide_eq_true_eq] at h1
  have h2 := hin a ha
  exact ⟨h2.op, h2.n, h1.2.1, h1.2.2.1, h1.1, h1.2.2.2.1, h1.2.2.2.2, h2.kr⟩
theorem all_take_snoc {l : List Ac} {k : Nat} (hk : k < l.length) (h : (l.take k).all acOk = true) (hc : acOk l[k] = true) : (l.take (k + 1)).all acOk = true := by
  rw [List.take_succ_eq_append_getElem hk, List.all_append, h]
  simp [hc]
theorem all_bad {l : List Ac} {k : Nat} (hk : k < l.length) (h : acOk l[k] = false) : smallB l = false := by
  unfold smallB
  have : l.all acOk = false := by
    rw [List.all_eq_false]
    exact ⟨l[k], List.getElem_mem hk, by rw [h]; simp⟩
  rw [this]; simp

set_option maxHeartbeats 4000000 in
theorem small_any (v : Value) (l : List Ac) (w : World) (B : Nat) (hv : ActsAt w B v l) (hin : ∀ a ∈ l, AcIn a) (hl : l.length ≤ maxLen) :
    Calls Try.prog 10 #[v] w fun e w' => e = .returned (.bool (smallB l)) ∧ w = w' := by
  obtain ⟨a0, cap, rfl, hc⟩ := hv
  unfold maxLen at hl
  by_cases h80 : 80 < l.length
  · have : smallB l = false := by unfold smallB; simp; omega
    rw [this]
    clear hc this
    go_enter Try.func10, Try.ntmps10
    go_wp2
    go_ret
    exact ⟨rfl, rfl⟩
  · have HC := hid hc
    have HI := hid hin
    clear hc hin
    have hq : decide (80 < (l.length : Int)) = false := by simp; omega
    go_enter Try.func10, Try.ntmps10
    go_wp2
    go_loop [3] (fun i => ∃ k : Nat, k ≤ l.length ∧ i = .int .i64 k ∧ Hid ((l.take k).all acOk = true)) (fun i => l.length - (intOf i).toNat)
    case atStart => exact ⟨0, Nat.zero_le _, rfl, hid (by simp)⟩
    case round =>
      obtain ⟨k, hk, rfl, hall⟩ := hrel
      by_cases hlt : k < l.length
      · have hne : l ≠ [] := fun e => by rw [e] at hlt; simp at hlt
        obtain ⟨b, o, rfl, hbB, hact⟩ := HC.out hne
        obtain ⟨kv, nv, hA⟩ := hact k l[k] (by simp [hlt])
        have hI := HI.out l[k] (List.getElem_mem hlt)
        obtain ⟨ka, kc, rfl, _⟩ := id hA.k
        obtain ⟨na, nc, rfl, _⟩ := id hA.n
        have d2 := hA.c2
        have d3 := hA.c3
        have d4 := hA.c4
        have d5 := hA.c5
        have d6 := hA.c6
        have i1 := hI.name
        have i2 := hI.to
        have i3 := hI.data
        have i4 := hI.keep
        have i5 := hI.noise
        unfold maxLen at i1 i2 i3 i4 i5
        have hsnoc := hid (all_take_snoc hlt hall.out)
        have hbad := hid (all_bad hlt)
        clear hact hA hI hne HC
        have hokd : ∀ x, acOk x = decide (x.data.size ≤ 600 ∧ x.name.size ≤ 100 ∧ x.to.size ≤ 100 ∧ x.keep.length ≤ 60 ∧ x.noise.length ≤ 60) := fun _ => rfl
        rw [hokd] at hsnoc hbad
        generalize l[k].data = x1 at *
        generalize l[k].name = x2 at *
        generalize l[k].to = x3 at *
        generalize l[k].keep = x4 at *
        generalize l[k].noise = x5 at *
        have hklen : k < 80 := by omega
        clear hokd
        by_cases h1 : x1.size ≤ 600
        · by_cases h2 : x2.size ≤ 100
          · by_cases h3 : x3.size ≤ 100
            · by_cases h4 : x4.length ≤ 60
              · by_cases h5 : x5.length ≤ 60
                · have HS := hid (hsnoc.out (decide_eq_true ⟨h1, h2, h3, h4, h5⟩))
                  clear hsnoc hbad
                  have q1 : decide (600 < (x1.size : Int)) = false := by simp; omega
                  have q2 : decide (100 < (x2.size : Int)) = false := by simp; omega
                  have q3 : decide (100 < (x3.size : Int)) = false := by simp; omega
                  have q4 : decide (60 < (x4.length : Int)) = false := by simp; omega
                  have q5 : decide (60 < (x5.length : Int)) = false := by simp; omega
                  go_wp2
                  go_round
                  case rel => exact ⟨k + 1, by omega, by go_num, HS⟩
                  case measure => simp [intOf]; omega
                · have HS := hid (hbad.out (decide_eq_false (fun hh => h5 (by omega))))
                  clear hsnoc hbad
                  have q1 : decide (600 < (x1.size : Int)) = false := by simp; omega
                  have q2 : decide (100 < (x2.size : Int)) = false := by simp; omega
                  have q3 : decide (100 < (x3.size : Int)) = false := by simp; omega
                  have q4 : decide (60 < (x4.length : Int)) = false := by simp; omega
                  have q5 : decide (60 < (x5.length : Int)) = true := by simp; omega
                  go_wp2
                  go_ret
                  exact ⟨ret_bool HS.out.symm, rfl⟩
              · have HS := hid (hbad.out (decide_eq_false (fun hh => h4 (by omega))))
                clear hsnoc hbad
                have q1 : decide (600 < (x1.size : Int)) = false := by simp; omega
                have q2 : decide (100 < (x2.size : Int)) = false := by simp; omega
                have q3 : decide (100 < (x3.size : Int)) = false := by simp; omega
                have q4 : decide (60 < (x4.length : Int)) = true := by simp; omega
                go_wp2
                go_ret
                exact ⟨ret_bool HS.out.symm, rfl⟩
            · have HS := hid (hbad.out (decide_eq_false (fun hh => h3 (by omega))))
              clear hsnoc hbad
              have q1 : decide (600 < (x1.size : Int)) = false := by simp; omega
              have q2 : decide (100 < (x2.size : Int)) = false := by simp; omega
              have q3 : decide (100 < (x3.size : Int)) = true := by simp; omega
              go_wp2
              go_ret
              exact ⟨ret_bool HS.out.symm, rfl⟩
          · have HS := hid (hbad.out (decide_eq_false (fun hh => h2 (by omega))))
            clear hsnoc hbad
            have q1 : decide (600 < (x1.size : Int)) = false := by simp; omega
            have q2 : decide (100 < (x2.size : Int)) = true := by simp; omega
            go_wp2
            go_ret
            exact ⟨ret_bool HS.out.symm, rfl⟩
        · have HS := hid (hbad.out (decide_eq_false (fun hh => h1 (by omega))))
          clear hsnoc hbad
          have q1 : decide (600 < (x1.size : Int)) = true := by simp; omega
          go_wp2
          go_ret
          exact ⟨ret_bool HS.out.symm, rfl⟩
      · obtain rfl : k = l.length := by omega
        have : smallB l = true := by
          have h1 := hall.out
          rw [List.take_of_length_le (Nat.le_refl _)] at h1
          unfold smallB; rw [h1]; simp; omega
        have HT := hid this
        clear this hall
        go_wp2
        go_ret
        exact ⟨by rw [HT.out]; rfl, rfl⟩
end Go.Proofs.Ytcinegkikahchaa
