import Derived.Test.YtbccikefccdekaaGreatDoorGRngJ
import Derived.Test.YtbccikefccdekaaGreatDoorSnCJ
/-
  LAYER 4 (snap), THE PROGRAM: the chunks of a base's data, as an iterator.
-/
namespace Go.Proofs.YtbccikefccdekaaGreatDoor
open Go.RowKit Go.Shelf
attribute [local go_sem] Oper.semAt_some
set_option linter.unusedVariables false
set_option maxRecDepth 100000

theorem chunksS_at : ∀ (c : Nat) (d : List UInt8), (1000 * c < d.length → (chunksS d)[c]? = some ((d.drop (1000 * c)).take 1000)) ∧ (d.length ≤ 1000 * c → (chunksS d).length ≤ c)
  | 0, d => by
    refine ⟨fun h => ?_, fun h => ?_⟩
    · rw [chunksS_cons (fun e => by rw [e] at h; simp at h)]; simp
    · have : d = [] := List.length_eq_zero_iff.1 (by omega)
      rw [this]; exact Nat.le_refl _
  | c + 1, d => by
    obtain ⟨h1, h2⟩ := chunksS_at c (d.drop 1000)
    rw [List.length_drop, List.drop_drop] at h1
    rw [List.length_drop] at h2
    by_cases hd : d = []
    · subst hd; exact ⟨fun h => by simp at h, fun _ => by rw [chunksS_nil]; simp⟩
    · rw [chunksS_cons hd]
      refine ⟨fun h => ?_, fun h => ?_⟩
      · rw [List.getElem?_cons_succ, h1 (by omega), show 1000 + 1000 * c = 1000 * (c + 1) by omega]
      · rw [List.length_cons]
        have := h2 (by omega)
        omega
theorem chunksS_len {d : List UInt8} {c : Nat} (h : (chunksS d).length = c) : d.length ≤ 1000 * c := by
  rcases Nat.lt_or_ge (1000 * c) d.length with h1 | h1
  · have := (List.getElem?_eq_some_iff.1 ((chunksS_at c d).1 h1)).1
    omega
  · exact h1
/-- The chunks as texts. -/
def chB (d : List UInt8) : List ByteArray := (chunksS d).map mk
theorem chB_at {d : List UInt8} {c : Nat} (h : 1000 * c < d.length) : (chB d)[c]? = some (mk ((d.drop (1000 * c)).take 1000)) := by
  unfold chB
  rw [List.getElem?_map, (chunksS_at c d).1 h]
  rfl
theorem chB_end {d : List UInt8} {c : Nat} (h : d.length ≤ 1000 * c) : (chB d).take c = chB d := List.take_of_length_le (by unfold chB; rw [List.length_map]; exact (chunksS_at c d).2 h)
theorem take_next {α : Type} {l : List α} {c : Nat} {x : α} (h : l[c]? = some x) : l.take c ++ [x] = l.take (c + 1) := by
  obtain ⟨h1, rfl⟩ := List.getElem?_eq_some_iff.1 h
  exact (List.take_succ_eq_append_getElem h1).symm
def encB (x : ByteArray) : Array Value := #[.string x]
set_option maxHeartbeats 4000000 in
theorem chunks_seq (Bd : Nat) (d : List UInt8) (hd : d.length ≤ 4000000) (w : World) (hB : own w Bd #[.string (mk d)] 9) :
    SeqT Tryz.prog 76 #[.pointer (some ⟨Bd, 0, none⟩)] encB (fun b => b = Bd) (fun xs => xs = chB d) (fun pre => pre <+: chB d) w := by
  intro n l J Jx F0 W hW hJ hJx hlt hltx hFD hY h0
  refine callsIn_of_wp Tryz.func76 rfl trivial ?_ rfl
  simp only [Tryz.ntmps76, List.size_toArray, List.length_cons, List.length_nil, Nat.reduceAdd, Nat.reduceSub, Array.replicate_succ, Array.replicate_zero, List.push_toArray, List.append_toArray, List.nil_append, List.cons_append]
  obtain ⟨s, hs⟩ : ∃ s, mk d = s := ⟨_, rfl⟩
  have hz : s.size = d.length := by rw [← hs, mk_size]
  have oW : own W Bd #[.string s] 9 := by rw [← hs]; exact hB.same (hW.block _ hB.lt)
  gi_wp2
  gi_loopw [3] (fun i wr => ∃ (c : Nat) (F : Nat → Prop), i = .int .i64 ((1000 * c : Nat) : Int) ∧ c ≤ 4001 ∧ ¬ F Bd ∧ J F ((chB d).take c) wr ∧ own wr Bd #[.string s] 9)
    (fun i _ => d.length - (intOf i).toNat)
  case atStart => exact ⟨0, F0, rfl, by omega, fun e => hFD _ e rfl, by simpa using h0, oW⟩
  case round =>
    obtain ⟨c, F, rfl, hc, hF, hj, oR⟩ := hrel
    have cR := (oR.cell 0).trans rfl
    by_cases hlt' : 1000 * c < d.length
    · have hx := chB_at hlt'
      have hnx := take_next hx
      have hcl : c < (chB d).length := (List.getElem?_eq_some_iff.1 hx).1
      obtain ⟨x, hxe⟩ : ∃ x, mk ((d.drop (1000 * c)).take 1000) = x := ⟨_, rfl⟩
      rw [hxe] at hnx
      obtain ⟨fn, tmps, assign, body, hy, hR⟩ := yield_wide (m' := n - 1) (hY F _ x wr hj (by rw [hnx]; exact List.take_prefix _ _))
      unfold encB at hy
      rw [hnx] at hR
      have hlt2 := hlt F _ wr hj
      have hBlt := oR.lt
      obtain ⟨k, hk⟩ : ∃ k, 1000 * c = k := ⟨_, rfl⟩
      have hk2 : 1000 * (c + 1) = k + 1000 := by omega
      rw [hk] at hlt' hxe
      have hkI : (k : Int) < (s.size : Int) := by omega
      have hwr : IntKind.i64.wrap ((k : Int) + 1000) = (k : Int) + 1000 := by rw [IntKind.wrap_i64]; omega
      have HN : Hid (∀ F' W', J F' ((chB d).take (c + 1)) W' → (∀ b, F' b → F b ∨ wr.heap.size ≤ b) → Chg F wr W' → ¬ F' Bd ∧ own W' Bd #[.string s] 9) := hid (fun F' W' _ h1 h2 => ⟨fun e => by
        rcases h1 _ e with q | q
        · exact hF q
        · omega, oR.chg h2 hF⟩)
      have HC := hid hc
      have HCL := hid (show c < 4000 by omega)
      have HK := hid hk2
      have HP := hid (List.take_prefix (c + 1) (chB d))
      rw [hk]
      by_cases hm : k + 1000 ≤ s.size
      · have hmin : min ((k : Int) + 1000) (s.size : Int) = (k : Int) + 1000 := by omega
        have hsl := fun wx => slice_lh (s := s) (lo := (k : Int)) (hi := (k : Int) + 1000) (l := (d.drop k).take 1000) (by omega) (by omega) (by omega) (by rw [← hs, mk_data]; congr 1; omega) wx
        rw [hxe] at hsl
        clear hxe hx hnx hk hk2 hs hB oW oR hj hc hcl hz
        gi_wp2
        refine ⟨fun h => by (cases h), hR.mono ?_⟩
        rintro e W3 (⟨rfl, ⟨F', hJ3, hF3⟩, hC3⟩ | ⟨rfl, ⟨F', hJ3, hF3⟩, hC3⟩)
        · obtain ⟨hB3, oR3⟩ := HN.out F' W3 hJ3 hF3 hC3
          have cR3 := (oR3.cell 0).trans rfl
          gi_wp2
          go_roundw
          case rel => exact ⟨c + 1, F', by rw [HK.out]; go_num, by have := HCL.out; omega, hB3, hJ3, oR3⟩
          case measure => simp [intOf]; omega
        · gi_wp2
          refine bodyPost_ret (results_none rfl _ _ _) rfl ?_
          exact ⟨⟨_, rfl⟩, .inr ⟨F', _, HP.out, hJ3⟩⟩
      · have hmin : min ((k : Int) + 1000) (s.size : Int) = (s.size : Int) := by omega
        have hsl := fun wx => slice_lh (s := s) (lo := (k : Int)) (hi := (s.size : Int)) (l := (d.drop k).take 1000) (by omega) (by omega) (by omega) (by
          rw [← hs, mk_data]
          have e1 : (d.drop k).length ≤ 1000 := by rw [List.length_drop]; omega
          rw [List.take_of_length_le e1, List.take_of_length_le (by rw [List.length_drop, hs]; omega)]
          congr 1) wx
        rw [hxe] at hsl
        clear hxe hx hnx hk hk2 hs hB oW oR hj hc hcl hz
        gi_wp2
        refine ⟨fun h => by (cases h), hR.mono ?_⟩
        rintro e W3 (⟨rfl, ⟨F', hJ3, hF3⟩, hC3⟩ | ⟨rfl, ⟨F', hJ3, hF3⟩, hC3⟩)
        · obtain ⟨hB3, oR3⟩ := HN.out F' W3 hJ3 hF3 hC3
          have cR3 := (oR3.cell 0).trans rfl
          gi_wp2
          go_roundw
          case rel => exact ⟨c + 1, F', by rw [HK.out]; go_num, by have := HCL.out; omega, hB3, hJ3, oR3⟩
          case measure => simp [intOf]; omega
        · gi_wp2
          refine bodyPost_ret (results_none rfl _ _ _) rfl ?_
          exact ⟨⟨_, rfl⟩, .inr ⟨F', _, HP.out, hJ3⟩⟩
    · have he := chB_end (d := d) (c := c) (by omega)
      rw [he] at hj
      have hkI : (s.size : Int) ≤ ((1000 * c : Nat) : Int) := by omega
      gi_wp2
      go_end0
      exact ⟨⟨_, rfl⟩, .inl ⟨F, _, rfl, hj⟩⟩
end Go.Proofs.YtbccikefccdekaaGreatDoor

