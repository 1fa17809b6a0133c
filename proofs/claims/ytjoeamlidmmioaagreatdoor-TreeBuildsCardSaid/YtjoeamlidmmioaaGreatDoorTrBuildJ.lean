import Derived.Test.YtjoeamlidmmioaaGreatDoorTrBdJ
import Derived.Test.YtjoeamlidmmioaaGreatDoorTrSayJ
import Derived.Test.YtjoeamlidmmioaaGreatDoorTrEndJ
import Derived.Test.YtjoeamlidmmioaaGreatDoorXmJcJ
import Derived.Laws.ResultCell
import Derived.Test.YtjoeamlidmmioaaGreatDoorMq3J
/-
  LAYER 12 (tree), THE PROGRAM: take.
-/
namespace Go.Proofs.YtjoeamlidmmioaaGreatDoor
open Go.RowKit
set_option linter.unusedVariables false
set_option maxRecDepth 100000

/-- What a token may be, and what is open, for a token to be taken. -/
structure OkT (s : BdX) (t : TkX) : Prop where
  hop : s.op.length ≤ 20
  has : t.as.length ≤ 1000000
  htx : t.t.length ≤ maxLen
  hws : ∀ e st, s.op = e :: st → OkW e.ws
  hks : ∀ e st, s.op = e :: st → e.ks.length ≤ 1000000 ∧ ∀ d r, st = d :: r → d.ks.length ≤ 1000000
set_option maxHeartbeats 4000000 in
theorem take_any {w0 w : World} {b : Nat} {s : BdX} (h : BdHas w0 w b s) (t : TkX) (a : Option Addr) (m c : Nat) (ha : RAt atTy w (.slice a m c) t.as) (ok : OkT s t) :
    Calls Tryz.prog 12 #[.pointer (some ⟨b, 0, none⟩), tkV t a m c] w fun e w' => e = .returned (.int .i64 (takeX s t).1) ∧ BdHas w0 w' b (takeX s t).2 := by
  unfold tkV
  have hbx : Below w.heap.size w (w.alloc (.cells #[.int .i64 t.k, .string (mk t.n), .slice a m c, .string (mk t.t)] 48)) := (Below.refl _ _).alloc (Nat.le_refl _) _
  have h1 := bdHas_later h hbx
  have ha1 := ha.below hbx
  have hob : own (w.alloc (.cells #[.int .i64 t.k, .string (mk t.n), .slice a m c, .string (mk t.t)] 48)) w.heap.size #[.int .i64 t.k, .string (mk t.n), .slice a m c, .string (mk t.t)] 48 := own.new w _ _
  have b0 := hob.cell 0
  have b1 := hob.cell 1
  have b2 := hob.cell 2
  have b3 := hob.cell 3
  simp only [List.getElem?_toArray, List.getElem?_cons_zero, List.getElem?_cons_succ] at b0 b1 b2 b3
  generalize hW : w.alloc (.cells #[.int .i64 t.k, .string (mk t.n), .slice a m c, .string (mk t.t)] 48) = W at *
  by_cases k1 : t.k = 1
  · have HB := hid (begin_any h1 t a m c ha1 k1 ok.has ok.hop)
    unfold tkV at HB
    rw [k1] at HB b0 hW ⊢
    clear h h1 ha ha1 hob ok k1
    go_enter Tryz.func12, Tryz.ntmps12
    go_wp2_with (go_at_call 20; (with_reducible refine HB.out.mono ?_); rintro e w1 ⟨rfl, hB⟩)
    go_ret
    exact ⟨rfl, hB⟩
  · have n1 : ((t.k : Int) == 1) = false := beq_eq_false_iff_ne.2 k1
    by_cases k2 : t.k = 2
    · have n2 : ((2 : Int) == 1) = false := rfl
      have HB : Hid (Calls Tryz.prog 21 #[.pointer (some ⟨b, 0, none⟩), .string (mk t.n)] W fun e w' => e = .returned (.int .i64 (takeX s t).1) ∧ BdHas w0 w' b (takeX s t).2) := hid (by
        have hT := end_take (s := s) k2
        obtain ⟨op, r⟩ := s
        cases op with
        | nil =>
          have hT2 : takeX ⟨[], r⟩ t = (8, ⟨[], r⟩) := hT
          have := end_no h1 t k2 (by simp) (by rw [hT2])
          rw [hT2]; exact this
        | cons e st =>
          by_cases hn : e.n = t.n
          · have hT2 : takeX ⟨e :: st, r⟩ t = (0, endB e st r) := hT.trans (if_pos hn)
            rw [hT2, ← hn]
            exact end_yes h1 (by have := ok.hop; simp at this; omega) (ok.hws e st rfl) (fun d st' q => (ok.hks e st rfl).2 d st' q)
          · have hT2 : takeX ⟨e :: st, r⟩ t = (8, ⟨e :: st, r⟩) := hT.trans (if_neg hn)
            have := end_no h1 t k2 ok.hop (by rw [hT2])
            rw [hT2]; exact this)
      rw [k2] at b0 hW n1 ⊢
      clear h h1 ha ha1 hob ok k1 k2
      go_enter Tryz.func12, Tryz.ntmps12
      go_wp2_with (go_at_call 21; (with_reducible refine HB.out.mono ?_); rintro e w1 ⟨rfl, hB⟩)
      go_ret
      exact ⟨rfl, hB⟩
    · have n2 : ((t.k : Int) == 2) = false := beq_eq_false_iff_ne.2 k2
      by_cases k3 : t.k = 3
      · have HB := hid (say_any h1 t k3 ok.htx (fun e st q => (ok.hws e st q).2) ok.hop)
        rw [k3] at b0 hW n1 n2 ⊢
        clear h h1 ha ha1 hob ok k1 k2 k3
        go_enter Tryz.func12, Tryz.ntmps12
        go_wp2_with (go_at_call 22; (with_reducible refine HB.out.mono ?_); rintro e w1 ⟨rfl, hB⟩)
        go_ret
        exact ⟨rfl, hB⟩
      · have n3 : ((t.k : Int) == 3) = false := beq_eq_false_iff_ne.2 k3
        have hT : takeX s t = (8, s) := by unfold takeX; rw [if_neg k1, if_neg k2, if_neg k3]
        rw [hT]
        have HB := hid h1
        clear h h1 ha ha1 hob ok k1 k2 k3 hT
        go_enter Tryz.func12, Tryz.ntmps12
        go_wp2
        go_ret
        exact ⟨rfl, HB.out⟩
end Go.Proofs.YtjoeamlidmmioaaGreatDoor
/-
  LAYER 12 (tree), THE PROGRAM: Build.
-/
namespace Go.Proofs.YtjoeamlidmmioaaGreatDoor
open Go.RowKit
set_option linter.unusedVariables false
set_option maxRecDepth 100000

def okF : BdX → List TkX → Prop
  | _, [] => True
  | s, t :: r => OkT s t ∧ ((takeX s t).1 = 0 → okF (takeX s t).2 r)
/-- What Build answers. -/
def BuildPost (w : World) (L : List TkX) (e : Ending) (w' : World) : Prop := ∃ x : NdV, e = .returned (.tuple #[ndV x, .int .i64 (buildX L).2]) ∧ NdIn atTy ndTy w' (fun g => w.heap.size ≤ g) x (buildX L).1 ∧ Below w.heap.size w w'
/-- Where the loop stands: the builder in the block nb, what is left. -/
def BlRel (w1 : World) (L : List TkX) (nb : Nat) (i : Value) (wr : World) : Prop := ∃ k s, k ≤ L.length ∧ i = .int .i64 (k : Nat) ∧ BdHas w1 wr nb s ∧ Hid (foldX bdX0 L = foldX s (L.drop k) ∧ okF s (L.drop k))
theorem bdHas_below {w0 w : World} {b : Nat} {s : BdX} (h : BdHas w0 w b s) : Below w0.heap.size w0 w := by
  obtain ⟨_, _, _, _, _, h⟩ := h
  exact h.below
/-- The root, when it has ended. -/
theorem bd_ended {w0 w : World} {b : Nat} {s : BdX} (h : BdHas w0 w b s) : ∃ rx, w.cell? ⟨b, 1, none⟩ = some (.string (mk rx.n)) ∧ w.cell? ⟨b, 2, none⟩ = some (.slice rx.a rx.am rx.ac) ∧ w.cell? ⟨b, 3, none⟩ = some (.string (mk rx.t)) ∧ w.cell? ⟨b, 4, none⟩ = some (.slice rx.k rx.km rx.kc) ∧ w.cell? ⟨b, 5, none⟩ = some (.bool s.root.isSome) ∧
    ∀ t, s.root = some t → NdIn atTy ndTy w (fun g => w0.heap.size ≤ g) rx t := by
  obtain ⟨ρ, ao, cap, V, rx, h⟩ := h
  exact ⟨rx, by rw [h.blk.cell]; rfl, by rw [h.blk.cell]; rfl, by rw [h.blk.cell]; rfl, by rw [h.blk.cell]; rfl, by rw [h.blk.cell]; rfl, fun t ht => ndIn_same (h.root t ht) (fun _ _ _ => rfl) (fun g hg => (h.new g (by rw [hg]; decide)).1) (Nat.le_refl _)⟩
set_option maxHeartbeats 8000000 in
theorem build_any {w : World} {v : Value} {L : List TkX} (h : TokAt w v L) (hok : okF bdX0 L) (hL : L.length ≤ 1000000) : Calls Tryz.prog 6 #[v] w (BuildPost w L) := by
  have hb1 : Below w.heap.size w (w.alloc (.cells #[.string ⟨#[]⟩, .slice none 0 0, .string ⟨#[]⟩, .slice none 0 0] 30)) := (Below.refl _ _).alloc (Nat.le_refl _) _
  have hT1 := TokAt.below h hb1
  have hn := bdHas_new (w.alloc (.cells #[.string ⟨#[]⟩, .slice none 0 0, .string ⟨#[]⟩, .slice none 0 0] 30))
  have ho1 : own (w.alloc (.cells #[.string ⟨#[]⟩, .slice none 0 0, .string ⟨#[]⟩, .slice none 0 0] 30)) w.heap.size #[.string ⟨#[]⟩, .slice none 0 0, .string ⟨#[]⟩, .slice none 0 0] 30 := own.new w _ _
  have hz1 : (w.alloc (.cells #[.string ⟨#[]⟩, .slice none 0 0, .string ⟨#[]⟩, .slice none 0 0] 30)).heap.size = w.heap.size + 1 := by simp
  rw [hz1] at hn
  obtain ⟨a1, c1, rfl, t1⟩ := tks_at hT1
  have HT := hid t1
  have HS := hid hn
  have HO := hid ho1
  have HB1 := hid hb1
  have HK : Hid (okF bdX0 L) := hid hok
  have HZ : Hid ((w.alloc (.cells #[.string ⟨#[]⟩, .slice none 0 0, .string ⟨#[]⟩, .slice none 0 0] 30)).heap.size = w.heap.size + 1) := hid hz1
  clear h hT1 hn t1 hok ho1 hb1 hz1
  go_enter Tryz.func6, Tryz.ntmps6
  go_wp2
  generalize hW1 : w.alloc (.cells #[.string ⟨#[]⟩, .slice none 0 0, .string ⟨#[]⟩, .slice none 0 0] 30) = W1 at *
  clear hW1
  have HE : Hid (∀ wr x t, Below W1.heap.size W1 wr → NdIn atTy ndTy wr (fun g => W1.heap.size ≤ g) x t → ∀ e, (t, e) = buildX L → own ((((wr.setCell ⟨w.heap.size, 0, none⟩ (.string (mk x.n))).setCell ⟨w.heap.size, 1, none⟩ (.slice x.a x.am x.ac)).setCell ⟨w.heap.size, 2, none⟩ (.string (mk x.t))).setCell ⟨w.heap.size, 3, none⟩ (.slice x.k x.km x.kc)) w.heap.size (ndCs x).toArray 30 ∧ BuildPost w L (.returned (.tuple #[ndV x, .int .i64 e])) ((((wr.setCell ⟨w.heap.size, 0, none⟩ (.string (mk x.n))).setCell ⟨w.heap.size, 1, none⟩ (.slice x.a x.am x.ac)).setCell ⟨w.heap.size, 2, none⟩ (.string (mk x.t))).setCell ⟨w.heap.size, 3, none⟩ (.slice x.k x.km x.kc))) := hid (fun wr x t hb hN e he => by
    have hz := HZ.out
    refine ⟨by have := ((((HO.out.same (hb.block _ HO.out.lt)).set 0 (.string (mk x.n))).set 1 (.slice x.a x.am x.ac)).set 2 (.string (mk x.t))).set 3 (.slice x.k x.km x.kc); simpa [ndCs] using this, x, by rw [← he], ?_, ((((HB1.out.trans (hb.mono HB1.out.size)).setCell (Nat.le_refl _) _).setCell (Nat.le_refl _) _).setCell (Nat.le_refl _) _).setCell (Nat.le_refl _) _⟩
    rw [← he]
    refine ndIn_same hN (fun g hg _ => ?_) (fun g hg => by omega) (by simp only [setCell_size]; exact Nat.le_refl _)
    have hne : g ≠ w.heap.size := by omega
    rw [Below.heap_setCell _ _ _ _ hne, Below.heap_setCell _ _ _ _ hne, Below.heap_setCell _ _ _ _ hne, Below.heap_setCell _ _ _ _ hne])
  have HO2 : Hid (∀ wr, Below W1.heap.size W1 wr → own wr w.heap.size #[.string ⟨#[]⟩, .slice none 0 0, .string ⟨#[]⟩, .slice none 0 0] 30) := hid (fun wr hb => HO.out.same (hb.block _ HO.out.lt))
  clear HO HB1 HZ
  go_loopw [10] (fun i wr => BlRel W1 L (w.heap.size + 1) i wr) (fun i _ => L.length - (intOf i).toNat)
  case atStart => exact ⟨0, bdX0, Nat.zero_le _, rfl, HS.out, hid ⟨rfl, HK.out⟩⟩
  case round =>
    obtain ⟨k, s, hk, rfl, hB, hF⟩ := hrel
    have hb := bdHas_below hB
    have HB := hid hB
    have HH := hid hb
    clear HS HK
    have ow := HO2.out wr hb
    have z0 := ow.cell 0
    have z1 := ow.cell 1
    have z2 := ow.cell 2
    have z3 := ow.cell 3
    have y0 := ow.frozen 0
    have y1 := ow.frozen 1
    have y2 := ow.frozen 2
    have y3 := ow.frozen 3
    simp at z0 z1 z2 z3
    by_cases hlt : k < L.length
    · have hkI : (k : Int) < (L.length : Int) := by omega
      have hx : L[k]? = some L[k] := by simp [hlt]
      have hdr : L.drop k = L[k] :: L.drop (k + 1) := List.drop_eq_getElem_cons hlt
      generalize L[k] = t at hx hdr
      rw [hdr] at hF
      obtain ⟨sb, so, aa, ac, rfl, r1, f1⟩ := HT.out k t hx
      obtain ⟨x0, x1, x2, x3⟩ := f1 _ hb
      have hbx : Below wr.heap.size wr (wr.alloc (.cells #[.int .i64 t.k, .string (mk t.n), .slice aa t.as.length ac, .string (mk t.t)] 48)) := (Below.refl _ _).alloc (Nat.le_refl _) _
      have obx : own (wr.alloc (.cells #[.int .i64 t.k, .string (mk t.n), .slice aa t.as.length ac, .string (mk t.t)] 48)) wr.heap.size #[.int .i64 t.k, .string (mk t.n), .slice aa t.as.length ac, .string (mk t.t)] 48 := own.new wr _ _
      have v0 := obx.cell 0
      have v1 := obx.cell 1
      have v2 := obx.cell 2
      have v3 := obx.cell 3
      simp only [List.getElem?_toArray, List.getElem?_cons_zero, List.getElem?_cons_succ] at v0 v1 v2 v3
      have HC := hid (take_any (bdHas_later hB hbx) t aa t.as.length ac ((r1.below hb).below hbx) hF.out.2.1)
      unfold tkV at HC
      clear hB hx hdr r1 f1 hbx obx hb ow
      by_cases he : (takeX s t).1 = 0
      · rw [he] at HC
        have HR : Hid (∀ w2, BdHas W1 w2 (w.heap.size + 1) (takeX s t).2 → BlRel W1 L (w.heap.size + 1) (.int .i64 ((k + 1 : Nat) : Int)) w2) := hid (fun w2 h2 => ⟨k + 1, (takeX s t).2, by omega, rfl, h2, hid ⟨by rw [hF.out.1]; show (if (takeX s t).1 = 0 then _ else _) = _; rw [if_pos he], hF.out.2.2 he⟩⟩)
        clear hF HB HH
        go_wp2_with (go_at_call 12; (with_reducible refine HC.out.mono ?_); rintro e w2 ⟨rfl, h2⟩)
        go_roundw
        case rel => exact HR.out _ h2
        case measure => simp [intOf]; omega
      · have he2 : ((takeX s t).1 == 0) = false := beq_eq_false_iff_ne.2 he
        have HEE : Hid ((tr0, (takeX s t).1) = buildX L) := hid (by
          unfold buildX
          have e1 : foldX bdX0 L = takeX s t := by rw [hF.out.1]; show (if (takeX s t).1 = 0 then _ else _) = _; rw [if_neg he]
          rw [e1, if_neg he])
        clear hF HB HH
        generalize (takeX s t).1 = er at *
        go_wp2_with (go_at_call 12; (with_reducible refine HC.out.mono ?_); rintro e w2 ⟨rfl, h2⟩; (have hb2 := bdHas_below h2); (have ow := HO2.out w2 hb2); (have z0 := ow.cell 0); (have z1 := ow.cell 1); (have z2 := ow.cell 2); (have z3 := ow.cell 3); (have y0 := ow.frozen 0); (have y1 := ow.frozen 1); (have y2 := ow.frozen 2); (have y3 := ow.frozen 3); (simp at z0 z1 z2 z3))
        obtain ⟨q1, q2⟩ := HE.out w2 nd0 tr0 hb2 (ndIn_zero _ _) _ HEE.out
        have c0 := q1.cell 0
        have c1 := q1.cell 1
        have c2 := q1.cell 2
        have c3 := q1.cell 3
        simp [ndCs] at c0 c1 c2 c3
        (try simp only [Exit.inBlock, Exit.then])
        refine bodyPost_ret (v := .tuple #[ndV nd0, .int .i64 er]) ?_ rfl q2
        rw [results_cell_tmp rfl]
        unfold ndV
        go_simp
        exact ⟨rfl, ⟨rfl, rfl, rfl⟩, rfl, rfl, rfl, rfl⟩
    · have hkI : ¬ ((k : Int) < (L.length : Int)) := by omega
      obtain ⟨rx, r1, r2, r3, r4, r5, hR⟩ := bd_ended hB
      have hke : L.drop k = [] := List.drop_eq_nil_of_le (by omega)
      rw [hke] at hF
      have e1 : foldX bdX0 L = (0, s) := hF.out.1
      cases hr : s.root with
      | none =>
        rw [hr] at r5
        have HEE : Hid ((tr0, (8 : Int)) = buildX L) := hid (by unfold buildX; rw [e1]; simp [hr])
        clear hF e1 hB hb hR ow hke
        simp only [Option.isSome_none] at r5
        go_wp2
        obtain ⟨q1, q2⟩ := HE.out wr nd0 tr0 HH.out (ndIn_zero _ _) _ HEE.out
        have c0 := q1.cell 0
        have c1 := q1.cell 1
        have c2 := q1.cell 2
        have c3 := q1.cell 3
        simp [ndCs] at c0 c1 c2 c3
        (try simp only [Exit.inBlock, Exit.then])
        refine bodyPost_ret (v := .tuple #[ndV nd0, .int .i64 8]) ?_ rfl q2
        rw [results_cell_tmp rfl]
        unfold ndV
        go_simp
        exact ⟨rfl, ⟨rfl, rfl, rfl⟩, rfl, rfl, rfl, rfl⟩
      | some u =>
        rw [hr] at r5
        have HEE : Hid ((u, (0 : Int)) = buildX L) := hid (by unfold buildX; rw [e1]; simp [hr])
        have HN := hid (hR u hr)
        clear hF e1 hB hb hR ow hke
        simp only [Option.isSome_some] at r5
        go_wp2
        obtain ⟨q1, q2⟩ := HE.out wr rx u HH.out HN.out _ HEE.out
        have c0 := q1.cell 0
        have c1 := q1.cell 1
        have c2 := q1.cell 2
        have c3 := q1.cell 3
        simp [ndCs] at c0 c1 c2 c3
        (try simp only [Exit.inBlock, Exit.then])
        refine bodyPost_ret (v := .tuple #[ndV rx, .int .i64 0]) ?_ rfl q2
        rw [results_cell_tmp rfl]
        unfold ndV
        go_simp
end Go.Proofs.YtjoeamlidmmioaaGreatDoor
/-
  LAYER 12 (tree): tokens that Build may be asked of: few, and not too long.
-/
namespace Go.Proofs.YtjoeamlidmmioaaGreatDoor
set_option linter.unusedVariables false
set_option maxRecDepth 100000

def sumT (L : List TkX) : Nat := (L.map fun t => t.t.length).sum
theorem okF_of : ∀ (L : List TkX) (s : BdX) (N T : Nat), N + L.length ≤ 1000000 → (∀ t ∈ L, t.as.length ≤ 1000000) → T + sumT L ≤ 100000000 → s.op.length ≤ 20 → (∀ e ∈ s.op, e.ws.flatten.length ≤ T ∧ e.ws.length ≤ N ∧ e.ks.length ≤ N) → okF s L
  | [], s, N, T, _, _, _, _, _ => trivial
  | t :: r, s, N, T, hN, ha, hT, h20, hI => by
    have hs : sumT (t :: r) = t.t.length + sumT r := by simp [sumT]
    rw [hs] at hT
    have hN2 : N + 1 + r.length ≤ 1000000 := by simp at hN; omega
    obtain ⟨op, rt⟩ := s
    refine ⟨⟨h20, ha t (by simp), by unfold maxLen; omega, fun e st he => ?_, fun e st he => ?_⟩, fun h0 => ?_⟩
    · obtain ⟨q1, q2, q3⟩ := hI e (by simp only at he; rw [he]; simp)
      exact ⟨.inr (by omega), by omega⟩
    · refine ⟨?_, fun d r' hd => ?_⟩
      · have := (hI e (by simp only at he; rw [he]; simp)).2.2; omega
      · have := (hI d (by simp only at he; rw [he, hd]; simp)).2.2; omega
    · refine okF_of r _ (N + 1) (T + t.t.length) hN2 (fun x hx => ha x (by simp [hx])) (by omega) ?_ ?_
      · unfold takeX at h0 ⊢
        split at h0
        · rename_i k1
          rw [if_pos k1]
          split at h0
          · cases h0
          · rename_i k2
            rw [if_neg k2]
            split at h0
            · cases h0
            · rename_i k3
              rw [if_neg k3]
              simp only at k2 h20 ⊢
              simp
              omega
        · rename_i k1
          rw [if_neg k1]
          split
          · split
            · exact h20
            · rename_i e st he
              split
              · simp only at he h20
                rw [he] at h20
                unfold endB
                split
                · simp
                · simp at h20 ⊢; omega
              · exact h20
          · split
            · split
              · split <;> exact h20
              · rename_i e st he
                simp only at he h20
                rw [he] at h20
                simpa using h20
            · exact h20
      · have hI2 : ∀ e ∈ op, e.ws.flatten.length ≤ T + t.t.length ∧ e.ws.length ≤ N + 1 ∧ e.ks.length ≤ N + 1 := fun e he => by
          obtain ⟨q1, q2, q3⟩ := hI e he
          exact ⟨by omega, by omega, by omega⟩
        unfold takeX
        split
        · split
          · exact hI2
          · split
            · exact hI2
            · intro e he
              simp at he
              rcases he with rfl | he
              · simp
              · exact hI2 e he
        · split
          · split
            · exact hI2
            · rename_i e st he
              simp only at he
              subst he
              split
              · unfold endB
                split
                · simp
                · rename_i d r'
                  intro x hx
                  simp at hx
                  rcases hx with rfl | hx
                  · obtain ⟨q1, q2, q3⟩ := hI d (by simp)
                    exact ⟨by simp only; omega, by simp only; omega, by simp; omega⟩
                  · exact hI2 x (by simp [hx])
              · exact hI2
          · split
            · split
              · split <;> exact hI2
              · rename_i e st he
                simp only at he
                subst he
                intro x hx
                simp at hx
                rcases hx with rfl | hx
                · obtain ⟨q1, q2, q3⟩ := hI e (by simp)
                  refine ⟨?_, by simp; omega, by simp only; omega⟩
                  simp only [List.flatten_append, List.length_append, List.flatten_cons, List.flatten_nil, List.length_nil]
                  omega
                · exact hI2 x (by simp [hx])
            · exact hI2
theorem okF_few (L : List TkX) (h1 : L.length ≤ 1000000) (h2 : ∀ t ∈ L, t.as.length ≤ 1000000) (h3 : sumT L ≤ 100000000) : okF bdX0 L :=
  okF_of L bdX0 0 0 (by omega) h2 (by omega) (by simp [bdX0]) (fun e he => by simp [bdX0] at he)
end Go.Proofs.YtjoeamlidmmioaaGreatDoor

