import Derived.Test.YtjoeamlidmmioaaGreatDoorMq4J
import Derived.Deep.RegionLaw
/-
  LAYER 12 (tree), THE PROGRAM: slices.Clone of attributes; begin.
-/
namespace Go.Proofs.YtjoeamlidmmioaaGreatDoor
open Go.RowKit
set_option linter.unusedVariables false
set_option maxRecDepth 100000

def ClPost {α : Type} (T : RowTy α) (w : World) (L : List α) (e : Ending) (w' : World) : Prop := ∃ a cap, e = .returned (.slice a L.length cap) ∧ RMid T w w' (.slice a L.length cap) L
set_option maxHeartbeats 4000000 in
theorem cloneAt_any {w : World} {v : Value} {L : List AtX} (h : RAt atTy w v L) (hL : L.length ≤ 1000000) :
    Calls Tryz.prog 41 #[v] w (ClPost atTy w L) := by
  have hr := h
  obtain ⟨ao, cap, rfl, hlc, hnone, _, _⟩ := h
  cases ao with
  | none =>
    have h0 : cap = 0 := hnone rfl
    subst h0
    have hl0 : L = [] := List.length_eq_zero_iff.1 (by omega)
    subst hl0
    have HF : Hid (ClPost atTy w [] (.returned (.slice none 0 0)) w) := hid ⟨none, 0, rfl, rMid_nil w⟩
    clear hr hlc hnone
    have hq : ∀ wx, Sem.run Tryz.prog (binOp .eql 27 (.slice none 0 0) (.slice none 0 0)) wx = .ok (.bool true) wx := fun wx => by rfl
    simp only [List.length_nil]
    go_enter Tryz.func41, Tryz.ntmps41
    go_wp2
    go_ret
    exact HF.out
  | some ad =>
    have hb : Below w.heap.size w (w.alloc (.cells #[] 51)) := (Below.refl _ _).alloc (Nat.le_refl _) _
    have hm : RMid atTy w (w.alloc (.cells #[] 51)) (.slice (some ⟨w.heap.size, 0, none⟩) 0 0) [] := rMid_empty hb (own.new w _ _) (Nat.le_refl _)
    obtain ⟨a1, c1, w1, e1, m1, _⟩ := hm.app atTy_ok 27 (hr.below hb) (by simp; omega)
    rw [show ([] : List AtX).length + L.length = L.length by simp] at e1 m1
    rw [List.nil_append] at m1
    have HF : Hid (ClPost atTy w L (.returned (.slice a1 L.length c1)) w1) := hid ⟨a1, c1, rfl, m1⟩
    have E1 := hid e1
    have hq : ∀ wx, Sem.run Tryz.prog (binOp .eql 27 (.slice (some ad) L.length cap) (.slice none 0 0)) wx = .ok (.bool false) wx := fun wx => by rfl
    clear e1 m1 hm hb hr hnone
    generalize L.length = n at *
    go_enter Tryz.func41, Tryz.ntmps41
    go_wp2_with (at_builtin; refine wpList_append_at E1.out (by with_reducible rfl) rfl _ _ rfl rfl rfl rfl ?_)
    go_ret
    exact HF.out
/-- A token as a value. -/
def tkV (t : TkX) (a : Option Addr) (m c : Nat) : Value := .agg #[.int .i64 t.k, .string (mk t.n), .slice a m c, .string (mk t.t)]
/-- What begin needs behind Clone: n lies in the block nb. -/
structure BgMid (w0 WN : World) (b : Nat) (s : BdX) (t : TkX) (ao : Option Addr) (n cap : Nat) (ca : Option Addr) (cc : Nat) (nb : Nat) : Prop where
  c0 : WN.cell? ⟨b, 0, none⟩ = some (.slice ao n cap)
  c0b : (WN.alloc (.cells #[.string (mk t.n), .slice ca t.as.length cc, .string ⟨#[]⟩, .slice none 0 0, .slice none 0 0] 95)).cell? ⟨b, 0, none⟩ = some (.slice ao n cap)
  n0 : WN.cell? ⟨nb, 0, none⟩ = some (.string (mk t.n))
  n1 : WN.cell? ⟨nb, 1, none⟩ = some (.slice ca t.as.length cc)
  n2 : WN.cell? ⟨nb, 2, none⟩ = some (.string ⟨#[]⟩)
  n3 : WN.cell? ⟨nb, 3, none⟩ = some (.slice none 0 0)
  run : ∃ a1 c1 w5, (Builtin.append_ #[52, 52] 52 #[.slice ao n cap, .slice (some ⟨WN.heap.size, 0, none⟩) 1 1]).run Tryz.prog (WN.alloc (.cells #[.string (mk t.n), .slice ca t.as.length cc, .string ⟨#[]⟩, .slice none 0 0, .slice none 0 0] 95)).drew = .ok (.slice a1 (n + 1) c1) w5 ∧ w5.cell? ⟨b, 0, none⟩ = some (.slice ao n cap) ∧ w5.frozen? ⟨b, 0, none⟩ = false ∧
    Hid (BdHas w0 (w5.setCell ⟨b, 0, none⟩ (.slice a1 (n + 1) c1)) b ⟨⟨t.n, t.as, [], []⟩ :: s.op, s.root⟩)
theorem bg_mid {w0 W WN : World} {ρ : Nat → Nat} {b : Nat} {s : BdX} {ao : Option Addr} {cap : Nat} {V : List ElV} {rx : NdV} (h : BdAt w0 W ρ b s ao cap V rx) (hb : Below W.heap.size W WN) (t : TkX) {ca : Option Addr} {cc : Nat} (hcl : RAt atTy WN (.slice ca t.as.length cc) t.as) (hcn : ∀ g, (Value.slice ca t.as.length cc).ownBlock = some g → W.heap.size ≤ g) {nb : Nat}
    (hn : own WN nb #[.string (mk t.n), .slice ca t.as.length cc, .string ⟨#[]⟩, .slice none 0 0] 30) (hl : V.length ≤ 100) : BgMid w0 WN b s t ao V.length cap ca cc nb := by
  have hN := bdAt_later h hb
  have hbe : Below WN.heap.size WN (WN.alloc (.cells #[.string (mk t.n), .slice ca t.as.length cc, .string ⟨#[]⟩, .slice none 0 0, .slice none 0 0] 95)).drew := ((Below.refl _ _).alloc (Nat.le_refl _) _).drew
  obtain ⟨a1, c1, w5, e1, e2, e3, e4⟩ := bd_push (bdAt_later hN hbe) t ca t.as.length cc (hcl.below hbe) (fun g hg => ⟨bdAt_out h g (hcn g hg), by have := hcn g hg; have := h.below.size; omega⟩) (gb := WN.heap.size) (cs := #[.string (mk t.n), .slice ca t.as.length cc, .string ⟨#[]⟩, .slice none 0 0, .slice none 0 0]) (T := 95) (own.new WN _ _) rfl hl
  exact ⟨by rw [hN.blk.cell]; rfl, by rw [(hN.blk.same (((Below.refl WN.heap.size WN).alloc (Nat.le_refl _) (.cells #[.string (mk t.n), .slice ca t.as.length cc, .string ⟨#[]⟩, .slice none 0 0, .slice none 0 0] 95)).block _ hN.blk.lt)).cell]; rfl, by rw [hn.cell]; rfl, by rw [hn.cell]; rfl, by rw [hn.cell]; rfl, by rw [hn.cell]; rfl, a1, c1, w5, e1, e2, e3, hid e4⟩
theorem begin_take {s : BdX} {t : TkX} (hk : t.k = 1) : takeX s t = if s.op.length = 20 then (19, s) else if s.root.isSome then (8, s) else (0, ⟨⟨t.n, t.as, [], []⟩ :: s.op, s.root⟩) := by
  unfold takeX; rw [if_pos hk]
set_option maxHeartbeats 4000000 in
theorem begin_any {w0 w : World} {b : Nat} {s : BdX} (h : BdHas w0 w b s) (t : TkX) (a : Option Addr) (m c : Nat) (ha : RAt atTy w (.slice a m c) t.as) (hk : t.k = 1) (hl : t.as.length ≤ 1000000) (hop : s.op.length ≤ 20) :
    Calls Tryz.prog 20 #[.pointer (some ⟨b, 0, none⟩), tkV t a m c] w fun e w' => e = .returned (.int .i64 (takeX s t).1) ∧ BdHas w0 w' b (takeX s t).2 := by
  unfold tkV
  rw [begin_take hk, hk]
  clear hk
  have hbx : Below w.heap.size w (w.alloc (.cells #[.int .i64 1, .string (mk t.n), .slice a m c, .string (mk t.t)] 48)) := (Below.refl _ _).alloc (Nat.le_refl _) _
  have HB := hid (bdHas_later h hbx)
  obtain ⟨ρ, ao, cap, V, rx, h⟩ := h
  have h1 := bdAt_later h hbx
  have c0 : (w.alloc (.cells #[.int .i64 1, .string (mk t.n), .slice a m c, .string (mk t.t)] 48)).cell? ⟨b, 0, none⟩ = some (.slice ao V.length cap) := by rw [h1.blk.cell]; rfl
  have c5 : (w.alloc (.cells #[.int .i64 1, .string (mk t.n), .slice a m c, .string (mk t.t)] 48)).cell? ⟨b, 5, none⟩ = some (.bool s.root.isSome) := by rw [h1.blk.cell]; rfl
  have hV := h.len
  by_cases h20 : s.op.length = 20
  · rw [if_pos h20]
    have hn : (((V.length : Nat) : Int) == 20) = true := by rw [hV, h20]; rfl
    clear h1 hV h
    go_enter Tryz.func20, Tryz.ntmps20
    go_wp2
    go_ret
    exact ⟨rfl, HB.out⟩
  · rw [if_neg h20]
    have hn : (((V.length : Nat) : Int) == 20) = false := by rw [beq_eq_false_iff_ne]; omega
    by_cases hr : s.root.isSome = true
    · rw [if_pos hr]
      rw [hr] at c5
      clear h1 hV h
      go_enter Tryz.func20, Tryz.ntmps20
      go_wp2
      go_ret
      exact ⟨rfl, HB.out⟩
    · rw [if_neg hr]
      have hr' : s.root.isSome = false := by simpa using hr
      rw [hr'] at c5
      have ha1 := ha.below hbx
      generalize hW : w.alloc (.cells #[.int .i64 1, .string (mk t.n), .slice a m c, .string (mk t.t)] 48) = W at *
      have hob : own W w.heap.size #[.int .i64 1, .string (mk t.n), .slice a m c, .string (mk t.t)] 48 := by rw [← hW]; exact own.new w _ _
      have b1 : W.cell? ⟨w.heap.size, 1, none⟩ = some (.string (mk t.n)) := by rw [hob.cell]; rfl
      have b2 : W.cell? ⟨w.heap.size, 2, none⟩ = some (.slice a m c) := by rw [hob.cell]; rfl
      have b1d : W.drew.cell? ⟨w.heap.size, 1, none⟩ = some (.string (mk t.n)) := b1
      have b2d : W.drew.cell? ⟨w.heap.size, 2, none⟩ = some (.slice a m c) := b2
      have HC : Hid (∀ wx, Below W.heap.size W wx → Calls Tryz.prog 41 #[.slice a m c] wx (ClPost atTy wx t.as)) := hid (fun wx hb => cloneAt_any (ha1.below hb) hl)
      have hbA : Below W.heap.size W (W.alloc (.cells #[.string ⟨#[]⟩, .slice none 0 0, .string ⟨#[]⟩, .slice none 0 0] 30)).drew := ((Below.refl _ _).alloc (Nat.le_refl _) _).drew
      have hbB : Below W.heap.size W W.drew := (Below.refl _ _).drew
      have HA : Hid (∀ w1, Below (W.alloc (.cells #[.string ⟨#[]⟩, .slice none 0 0, .string ⟨#[]⟩, .slice none 0 0] 30)).drew.heap.size (W.alloc (.cells #[.string ⟨#[]⟩, .slice none 0 0, .string ⟨#[]⟩, .slice none 0 0] 30)).drew w1 → own w1 W.heap.size #[.string ⟨#[]⟩, .slice none 0 0, .string ⟨#[]⟩, .slice none 0 0] 30) := hid (fun w1 hb => (own.new W _ _).same (hb.block _ (by simp [World.drew])))
      have HT : Hid (∀ w1, Below W.heap.size W w1 → w1.cell? ⟨w.heap.size, 1, none⟩ = some (.string (mk t.n)) ∧ w1.cell? ⟨w.heap.size, 2, none⟩ = some (.slice a m c) ∧ (w1.alloc (.cells #[.string ⟨#[]⟩, .slice none 0 0, .string ⟨#[]⟩, .slice none 0 0] 30)).cell? ⟨w.heap.size, 1, none⟩ = some (.string (mk t.n)) ∧ (w1.alloc (.cells #[.string ⟨#[]⟩, .slice none 0 0, .string ⟨#[]⟩, .slice none 0 0] 30)).cell? ⟨w.heap.size, 2, none⟩ = some (.slice a m c)) := hid (fun w1 hb => by
        have o1 := hob.same (hb.block _ hob.lt)
        have o2 := o1.same (((Below.refl w1.heap.size w1).alloc (Nat.le_refl _) (.cells #[.string ⟨#[]⟩, .slice none 0 0, .string ⟨#[]⟩, .slice none 0 0] 30)).block _ o1.lt)
        exact ⟨by rw [o1.cell]; rfl, by rw [o1.cell]; rfl, by rw [o2.cell]; rfl, by rw [o2.cell]; rfl⟩)
      obtain ⟨_, _, b1A, b2A⟩ := HT.out W (Below.refl _ _)
      have HPA : Hid (∀ w1 ca cc, RMid atTy (W.alloc (.cells #[.string ⟨#[]⟩, .slice none 0 0, .string ⟨#[]⟩, .slice none 0 0] 30)).drew w1 (.slice ca t.as.length cc) t.as → BgMid w0 ((((w1.setCell ⟨W.heap.size, 0, none⟩ (.string (mk t.n))).setCell ⟨W.heap.size, 1, none⟩ (.slice ca t.as.length cc)).setCell ⟨W.heap.size, 2, none⟩ (.string ⟨#[]⟩)).setCell ⟨W.heap.size, 3, none⟩ (.slice none 0 0)) b s t ao V.length cap ca cc W.heap.size) := hid (fun w1 ca cc hm => by
        have o1 := HA.out w1 hm.below
        have hz : W.heap.size + 1 ≤ (W.alloc (.cells #[.string ⟨#[]⟩, .slice none 0 0, .string ⟨#[]⟩, .slice none 0 0] 30)).drew.heap.size := by simp [World.drew]
        have hne : ∀ g, (Value.slice ca t.as.length cc).ownBlock = some g → g ≠ W.heap.size := fun g hg => by have := hm.new g hg; omega
        refine bg_mid h1 ((((hbA.trans (hm.below.mono hbA.size)).setCell (Nat.le_refl _) _).setCell (Nat.le_refl _) _).setCell (Nat.le_refl _) _ |>.setCell (Nat.le_refl _) _) t (hm.row.rAt.same (fun g hg _ => ?_) (by simp only [setCell_size]; exact Nat.le_refl _)) (fun g hg => by have := hm.new g hg; omega) ?_ (by rw [hV]; omega)
        · rw [Below.heap_setCell _ _ _ _ (hne g hg), Below.heap_setCell _ _ _ _ (hne g hg), Below.heap_setCell _ _ _ _ (hne g hg), Below.heap_setCell _ _ _ _ (hne g hg)]
        · have := (((o1.set 0 (.string (mk t.n))).set 1 (.slice ca t.as.length cc)).set 2 (.string ⟨#[]⟩)).set 3 (.slice none 0 0)
          simpa using this)
      have HPB : Hid (∀ w1 ca cc, RMid atTy W.drew w1 (.slice ca t.as.length cc) t.as → BgMid w0 (w1.alloc (.cells #[.string (mk t.n), .slice ca t.as.length cc, .string ⟨#[]⟩, .slice none 0 0] 30)) b s t ao V.length cap ca cc w1.heap.size) := hid (fun w1 ca cc hm =>
        bg_mid h1 ((hbB.trans (hm.below.mono hbB.size)).alloc hm.below.size _) t (hm.row.rAt.below ((Below.refl _ _).alloc (Nat.le_refl _) _)) (fun g hg => hm.new g hg) (own.new w1 _ _) (by rw [hV]; omega))
      clear h1 h hob ha ha1 HB hV hop h20
      generalize V.length = vn at *
      go_enter Tryz.func20, Tryz.ntmps20
      go_wp2
      go_region_law (first
        | (go_simp; go_wp2_with (go_at_call 41; first
          | ((with_reducible refine (HC.out _ hbA).mono ?_); rintro e w1 ⟨ca, cc, rfl, hm⟩; (have ho1 := HA.out w1 hm.below); (have z0 := ho1.cell 0); (have z1 := ho1.cell 1); (have z2 := ho1.cell 2); (have z3 := ho1.cell 3); (have y0 := ho1.frozen 0); (have y1 := ho1.frozen 1); (have y2 := ho1.frozen 2); (have y3 := ho1.frozen 3); (obtain ⟨t1, t2, t3, t4⟩ := HT.out w1 (hbA.trans (hm.below.mono hbA.size))); (obtain ⟨WN, hWN⟩ : ∃ WN, ((((w1.setCell ⟨W.heap.size, 0, none⟩ (.string (mk t.n))).setCell ⟨W.heap.size, 1, none⟩ (.slice ca t.as.length cc)).setCell ⟨W.heap.size, 2, none⟩ (.string ⟨#[]⟩)).setCell ⟨W.heap.size, 3, none⟩ (.slice none 0 0)) = WN := ⟨_, rfl⟩); (have HM := hid (HPA.out w1 ca cc hm)); (rw [hWN] at HM); (have HN := hid hWN); (clear hWN))
          | ((with_reducible refine (HC.out _ hbB).mono ?_); rintro e w1 ⟨ca, cc, rfl, hm⟩; (obtain ⟨t1, t2, t3, t4⟩ := HT.out w1 (hbB.trans (hm.below.mono hbB.size))); (obtain ⟨WN, hWN⟩ : ∃ WN, (w1.alloc (.cells #[.string (mk t.n), .slice ca t.as.length cc, .string ⟨#[]⟩, .slice none 0 0] 30)) = WN := ⟨_, rfl⟩); (have HM := hid (HPB.out w1 ca cc hm)); (rw [hWN] at HM); (have HN := hid hWN); (clear hWN)))))
      all_goals
        rw [HN.out]
        obtain ⟨d0, d0b, n0, n1, n2, n3, a1, c1, w5, hrun, k1, k2, HF⟩ := HM.out
        clear HPA HPB HC HA HT hm HM HN t1 t2 t3 t4
        go_wp2
        go_region_law (refine step_append_at hrun (by with_reducible rfl) rfl _ _ rfl rfl rfl rfl ?_)
        all_goals
          go_wp2
          go_ret
          exact ⟨rfl, HF.out⟩
end Go.Proofs.YtjoeamlidmmioaaGreatDoor

