/-
  LAYER 14 (shard), THE PROGRAM: the names behind one another, each with its shard, as an iterator.
-/
import Derived.Test.YtnbghghkahaenaaShA
import Derived.Test.YtnbghghkahaenaaGRng
namespace Go.Proofs.Ytnbghghkahaenaa
open Go.RowKit Go.Shelf
attribute [local go_sem] Oper.semAt_some
set_option linter.unusedVariables false
set_option maxRecDepth 100000

def encP (s : ByteArray) : Array Value := #[.int .i64 (ofL s : Nat), .string s]
set_option maxHeartbeats 4000000 in
theorem placed_any (a : Option Addr) (k c : Nat) (w : World) : Calls Try.prog 20 #[.slice a k c] w fun e w' => e = .returned (.func (.func 21) #[] #[.pointer (some ⟨w.heap.size, 0, none⟩)]) ∧ w' = w.alloc (.cells #[.slice a k c] 27) := by
  go_enter Try.func20, Try.ntmps20
  go_wp2
  go_ret
  exact ⟨rfl, rfl⟩
theorem take_nextS {α : Type} {l : List α} {c : Nat} {x : α} (h : l[c]? = some x) : l.take c ++ [x] = l.take (c + 1) := by
  obtain ⟨h1, rfl⟩ := List.getElem?_eq_some_iff.1 h
  exact (List.take_succ_eq_append_getElem h1).symm
set_option maxHeartbeats 4000000 in
theorem placed_seq (Bd : Nat) (v : Value) (L : List ByteArray) (hl : L.length ≤ 100000) (hsz : ∀ s ∈ L, s.size ≤ 1000000000) (w : World) (hB : own w Bd #[v] 27) (hv : RAt strTy w v L) :
    SeqT Try.prog 21 #[.pointer (some ⟨Bd, 0, none⟩)] encP (fun b => b = Bd ∨ (L ≠ [] ∧ v.ownBlock = some b)) (fun xs => xs = L) (fun pre => pre <+: L) w := by
  intro n l J Jx F0 W hW hJ hJx hlt hltx hFD hY h0
  refine callsIn_of_wp Try.func21 rfl trivial ?_ rfl
  simp only [Try.ntmps21, List.size_toArray, List.length_cons, List.length_nil, Nat.reduceAdd, Nat.reduceSub, Array.replicate_succ, Array.replicate_zero, List.push_toArray, List.append_toArray, List.nil_append, List.cons_append]
  have oW : own W Bd #[v] 27 := hB.same (hW.block _ hB.lt)
  have c0 := (oW.cell 0).trans rfl
  have vW := hv.below hW
  obtain ⟨ao, cap, rfl, hat0⟩ := strs_at hv
  obtain ⟨ao', cap', e', hat⟩ := strs_at vW
  cases e'
  clear hat0
  obtain ⟨len, hlen⟩ : ∃ len, L.length = len := ⟨_, rfl⟩
  rw [hlen] at c0 hl
  have HLen := hid hlen
  have HSz := hid hsz
  gi_wp2
  gi_loopw [7] (fun i wr => ∃ (c : Nat) (F : Nat → Prop), i = .int .i64 (c : Int) ∧ c ≤ len ∧ (∀ b, L ≠ [] → (Value.slice ao len cap).ownBlock = some b → ¬ F b) ∧ J F (L.take c) wr ∧ Hid (RAt strTy wr (.slice ao len cap) L))
    (fun i _ => len - (intOf i).toNat)
  case atStart => exact ⟨0, F0, rfl, by omega, fun b e0 e k => hFD _ k (.inr ⟨e0, by rw [hlen]; exact e⟩), by simpa using h0, hid (by rw [← hlen]; exact vW)⟩
  case round =>
    obtain ⟨c, F, rfl, hc, hF, hj, hvr⟩ := hrel
    by_cases hcl : c < len
    · obtain ⟨x, hx⟩ : ∃ x, L[c]? = some x := ⟨_, List.getElem?_eq_getElem (by omega)⟩
      have hnx := take_nextS hx
      obtain ⟨ao2, cap2, e2, hat2⟩ := strs_at hvr.out
      rw [hlen] at e2
      cases e2
      obtain ⟨sb, so, rfl, hsb, c1⟩ := hat2 c x hx
      have hcI : (c : Int) < (len : Int) := by omega
      have hne : L ≠ [] := fun e => by rw [e] at hx; simp at hx
      have hfb : ¬ F sb := hF sb hne rfl
      have HOf := hid (shOf_any wr x (hsz x (List.mem_of_getElem? hx)))
      have HY1 : Hid (∀ wx, Below wr.heap.size wr wx → ∃ fn tmps assign body, (Instr.yield l #[.int .i64 (ofL x : Nat), .string x]).run Try.prog wx = .ok (.round l fn tmps assign body) wx ∧ RoundIn Fence.wide (n - 1) Try.prog l fn tmps assign body wx (RoundT J Jx F (L.take (c + 1)) wx)) := hid (fun wx h => by
        rw [← hnx]
        exact yield_wide (m' := n - 1) (hY F (L.take c) x wx (hJ _ _ _ _ hj ⟨h.os, h.tape, h.output, h.size, fun b hb _ => h.block b hb⟩) (by rw [hnx]; exact List.take_prefix _ _)))
      have HN : Hid (∀ wx F' W', Below wr.heap.size wr wx → J F' (L.take (c + 1)) W' → (∀ b, F' b → F b ∨ wx.heap.size ≤ b) → Chg F wx W' → ¬ F' sb ∧ RAt strTy W' (.slice (some ⟨sb, so, none⟩) len cap) L) := hid (fun wx F' W' hx1 h1 h2 h3 => ⟨fun e => by
          have := hx1.size
          rcases h2 _ e with q | q
          · exact hfb q
          · omega, (hvr.out.below hx1).same (fun b e hb => h3.block b hb (hF b hne e)) h3.size⟩)
      have HP := hid (List.take_prefix (c + 1) L)
      have HJx := hid hJx
      clear hj hvr hY hJ h0 hat2 hat hx hnx hF oW vW hB hv c0 hsz
      generalize ofL x = f at HOf HY1
      gi_wp2_with (refine ⟨trivial, fun h => by (cases h), ?_⟩; with_reducible refine (callsIn_wide.2 HOf.out).mono ?_; rintro e w2 ⟨rfl, hb2⟩; obtain ⟨fn, tmps, assign, body, hy, hR⟩ := HY1.out _ hb2)
      refine ⟨fun h => by (cases h), hR.mono ?_⟩
      rintro e W3 (⟨rfl, ⟨F', hJ3, hF3⟩, hC3⟩ | ⟨rfl, ⟨F', hJ3, hF3⟩, hC3⟩)
      · obtain ⟨hB3, oR3⟩ := HN.out _ F' W3 hb2 hJ3 hF3 hC3
        have HR3 := hid oR3
        clear oR3 hC3 hF3 hR
        gi_wp2
        go_roundw
        case rel => exact ⟨c + 1, F', by go_num, by omega, fun b _ e => by cases e; exact hB3, hJ3, HR3⟩
        case measure => simp [intOf]; omega
      · clear hC3 hF3 hR
        gi_wp2
        refine bodyPost_ret (results_none rfl _ _ _) rfl ?_
        exact ⟨⟨_, rfl⟩, .inr ⟨F', _, HP.out, hJ3⟩⟩
    · have he : L.take c = L := List.take_of_length_le (by omega)
      rw [he] at hj
      have hcI : (len : Int) ≤ (c : Int) := by omega
      gi_wp2
      go_end0
      exact ⟨⟨_, rfl⟩, .inl ⟨F, _, rfl, hj⟩⟩
end Go.Proofs.Ytnbghghkahaenaa
