import Derived.Test.YtbccikefccdekaaGreatDoorSrBJ
import Derived.Test.YtbccikefccdekaaGreatDoorMq2J
import Derived.Test.YtbccikefccdekaaGreatDoorSnPkJ
/-
  LAYER 4 (snap), THE DOCUMENT's ANSWER: rows of bytes that were made; Pack; unframe.
-/
namespace Go.Proofs.YtbccikefccdekaaGreatDoor
open Go.RowKit
set_option linter.unusedVariables false
set_option maxRecDepth 100000

/-- A row of bytes that was made since w. -/
structure BMid (w wr : World) (v : Value) (l : List UInt8) : Prop where
  row : Bytes wr 0 v l
  new : ∀ b, v.ownBlock = some b → w.heap.size ≤ b
  below : Below w.heap.size w wr
theorem bMid_nil (w : World) : BMid w w (.slice none 0 0) [] := ⟨⟨by simp [Lib.byteCells], .inl ⟨rfl, rfl⟩⟩, fun b e => by simp [Value.ownBlock] at e, Below.refl _ _⟩
theorem BMid.later {w wr wy : World} {v : Value} {l : List UInt8} (h : BMid w wr v l) (hb : Below wr.heap.size wr wy) : BMid w wy v l := ⟨ownsRow_below h.row hb (Nat.le_refl _), h.new, h.below.trans (hb.mono h.below.size)⟩
theorem BMid.shape {w wr : World} {v : Value} {l : List UInt8} (h : BMid w wr v l) : ∃ a c, v = .slice a l.length c := by
  rcases h.row.2 with ⟨rfl, hz⟩ | ⟨g, cap, cur, rfl, _⟩
  · exact ⟨none, 0, by rw [hz]⟩
  · exact ⟨_, _, rfl⟩
theorem BMid.push {w wr : World} {v : Value} {l : List UInt8} (h : BMid w wr v l) (s : ByteArray) (hl : l.length + s.size ≤ 100000000) :
    ∃ a n c w5, (Builtin.append_ #[33, 9] 33 #[v, .string s]).run Tryz.prog wr = .ok (.slice a n c) w5 ∧ n = (l ++ s.data.toList).length ∧ BMid w w5 (.slice a n c) (l ++ s.data.toList) := by
  obtain ⟨v', w', hr, hb, hg, hn⟩ := run_app_str wr 33 v l h.row s (by omega)
  have hw := h.below.size
  have hm : BMid w w' v' (l ++ s.data.toList) := ⟨hb, fun b e => by
    rcases hn b e with k | k
    · exact h.new b k
    · omega, h.below.grown hg hw h.new⟩
  obtain ⟨a, c, rfl⟩ := hm.shape
  exact ⟨a, _, c, w', hr, rfl, hm⟩
theorem bMid_str {w wr : World} {v : Value} {l : List UInt8} (h : BMid w wr v l) (hne : l ≠ []) (wx : World) (hb : Below wr.heap.size wr wx) : (convert 33 9 v).run Tryz.prog wx = .ok (.string (mk l)) wx := by
  obtain ⟨g, cap, rfl, _, _, _, _, hc, _⟩ := (h.later hb).row.shape hne
  exact run_string rfl hc
theorem bMid_str0 {w wr : World} {v : Value} {l : List UInt8} (h : BMid w wr v l) (wx : World) (hb : Below wr.heap.size wr wx) : (convert 33 9 v).run Tryz.prog wx = .ok (.string (mk l)) wx := by
  by_cases hne : l = []
  · subst hne
    rcases h.row.2 with ⟨rfl, hz⟩ | ⟨g, cap, cur, rfl, _⟩
    · simp [convert, go_sem, run_underlying Tryz.underlying33, run_underlying Tryz.underlying9, run_underlying Tryz.underlying5, Conv.bytesToString]
      rfl
    · exact run_string rfl (fun j c hj => by simp at hj)
  · exact bMid_str h hne wx hb
theorem strs_atS {w : World} {v : Value} {L : List ByteArray} (h : Gr.RAt gsTy w v L) : ∃ a cap, v = .slice a L.length cap ∧ ∀ wx, Below w.heap.size w wx → ∀ (k : Nat) x, L[k]? = some x → ∃ sb so, a = some ⟨sb, so, none⟩ ∧ wx.cell? ⟨sb, so + k, none⟩ = some (.string x) := by
  obtain ⟨a, cap, rfl, _, _, hc⟩ := h.at gsTy_ok
  refine ⟨a, cap, rfl, fun wx hb k x hk => ?_⟩
  obtain ⟨sb, so, e, hlt, h1⟩ := hc k x hk
  have := h1 0 _ rfl
  rw [show gsTy.n = 1 from rfl, Nat.mul_one, Nat.add_zero] at this
  exact ⟨sb, so, e, (hb.cell (p := ⟨sb, so + k, none⟩) hlt).trans this⟩
def PkRel (L : List ByteArray) (w5 : World) (u6 u7 : Value) (wr : World) : Prop := ∃ (k m : Nat) (a : Option Addr) (c : Nat), k ≤ L.length ∧ u6 = .slice a m c ∧ u7 = .int .i64 (k : Int) ∧ Hid (BMid w5 wr (.slice a m c) (flatB (L.take k)))
set_option maxHeartbeats 8000000 in
theorem srPack_any {w : World} {b : Bs} {vv : Value} (h : BAt w vv b) : Calls Tryz.prog 9 #[bval b vv] w (PackPost w b) := by
  obtain ⟨W1, hW1⟩ : ∃ W1, w.alloc (.cells #[.int .i64 b.ix, .int .i64 b.tm, vv, .string (mk b.data)] 24) = W1 := ⟨_, rfl⟩
  have hb1 : Below w.heap.size w W1 := by rw [← hW1]; exact (Below.refl _ _).alloc (Nat.le_refl _) _
  have o1 : own W1 w.heap.size (bcells b vv) 24 := by rw [← hW1]; exact own.new _ _ _
  have h1 := h.below hb1
  obtain ⟨va, vc, rfl, -⟩ := id h.vot
  have HBx : Hid (∀ wx, Below W1.heap.size W1 wx → wx.cell? ⟨w.heap.size, 0, none⟩ = some (.int .i64 b.ix) ∧ wx.cell? ⟨w.heap.size, 1, none⟩ = some (.int .i64 b.tm) ∧ wx.cell? ⟨w.heap.size, 2, none⟩ = some (.slice va b.vot.length vc) ∧ wx.cell? ⟨w.heap.size, 3, none⟩ = some (.string (mk b.data)) ∧ Below w.heap.size w wx) := hid (fun wx hb => by
    have o2 := o1.same (hb.block _ o1.lt)
    exact ⟨(o2.cell 0).trans rfl, (o2.cell 1).trans rfl, (o2.cell 2).trans rfl, (o2.cell 3).trans rfl, hb1.trans (hb.mono hb1.size)⟩)
  obtain ⟨z0, z1, z2, z3, -⟩ := HBx.out _ (Below.refl _ _)
  have HR : Hid (Calls Tryz.prog 11 #[.agg #[.int .i64 b.ix, .int .i64 b.tm, .slice va b.vot.length vc, .string (mk b.data)]] W1 fun e w' => e = .returned (.bool (rightS b)) ∧ Below W1.heap.size W1 w') := hid (srRight_any h1)
  unfold PackPost packR packE
  dsimp only [bval]
  cases hr : rightS b with
  | false =>
    rw [hr] at HR
    rw [if_neg (by simp), if_neg (by simp)]
    clear o1 h h1 hr
    go_enter Tryz.func9, Tryz.ntmps9
    go_wp2_with (go_at_call 11; (with_reducible refine HR.out.mono ?_); rintro e w1 ⟨rfl, hb2⟩)
    go_ret2
    exact ⟨rfl, (HBx.out _ hb2).2.2.2.2⟩
  | true =>
    rw [hr] at HR
    rw [if_pos rfl, if_pos rfl]
    have hfl := flatB_frames b
    have hps := packS_small hr
    have hpn := packS_ne b
    have HF : Hid (∀ wx, Below W1.heap.size W1 wx → Calls Tryz.prog 27 #[.agg #[.int .i64 b.ix, .int .i64 b.tm, .slice va b.vot.length vc, .string (mk b.data)]] wx fun e w' => ∃ a c, e = .returned (.slice a (framesB b).length c) ∧ Gr.RAt gsTy w' (.slice a (framesB b).length c) (framesB b) ∧ Below wx.heap.size wx w') := hid (fun wx hb => srFrames_any (h1.below hb) hr)
    have hfn := framesB_len b
    have hcn : (chB b.data).length ≤ 4001 := by
      unfold chB
      rw [List.length_map]
      exact (chunksS_at 4001 b.data).2 (by have := (rightS_parts hr).2.2.2.2; omega)
    generalize framesB b = L at *
    generalize packS b = ps at *
    have hLl : L.length ≤ 5000 := by omega
    clear o1 h h1 hr hfn hcn
    obtain ⟨n, hn⟩ : ∃ n, L.length = n := ⟨_, rfl⟩
    rw [hn] at hLl HF
    have HN := hid hn
    clear hn
    go_enter Tryz.func9, Tryz.ntmps9
    go_wp2_with (first
      | (go_at_call 11; (with_reducible refine HR.out.mono ?_); rintro e w1 ⟨rfl, hb2⟩; obtain ⟨c0, c1, c2, c3, -⟩ := HBx.out _ hb2)
      | (go_at_call 27; (with_reducible refine (HF.out _ hb2).mono ?_); rintro e w5 ⟨a, c, rfl, hrat, hb5⟩; have HRat := hid hrat; clear hrat))
    obtain ⟨a', c', e', hat⟩ := strs_atS HRat.out
    simp only [Value.slice.injEq] at e'
    obtain ⟨rfl, -, rfl⟩ := e'
    have HAt := hid hat
    have HB5 := hid ((HBx.out _ hb2).2.2.2.2.trans (hb5.mono (HBx.out _ hb2).2.2.2.2.size))
    clear hat hb5 hb2 c0 c1 c2 c3 z0 z1 z2 z3 HR HF HBx hb1
    go_loopw [6, 7] (PkRel L w5) (fun _ i _ => n - (intOf i).toNat)
    case atStart => exact ⟨0, 0, none, 0, Nat.zero_le _, rfl, rfl, hid (by simpa [flatB] using bMid_nil w5)⟩
    case round =>
      obtain ⟨k, m, a6, c6, hk, rfl, rfl, hq⟩ := hrel
      by_cases hkn : k < n
      · have hkI : (k : Int) < (n : Int) := by omega
        obtain ⟨x, hx⟩ : ∃ x, L[k]? = some x := ⟨_, List.getElem?_eq_getElem (by rw [HN.out]; exact hkn)⟩
        obtain ⟨sb, so, rfl, y0⟩ := HAt.out _ hq.out.below k x hx
        have hnx := take_next hx
        have hpre := flatB_pre (List.take_prefix (k + 1) L)
        rw [← hnx, flatB_snoc, List.length_append, str_len, hfl] at hpre
        obtain ⟨a7, n7, c7, w7, hrun, hn7, hm7⟩ := hq.out.push x (by omega)
        rw [← flatB_snoc, hnx] at hm7
        have HR2 : Hid (PkRel L w5 (.slice a7 n7 c7) (.int .i64 ((k : Int) + 1)) w7) := hid ⟨k + 1, n7, a7, c7, by rw [HN.out]; exact hkn, rfl, by push_cast; rfl, hid hm7⟩
        clear hx hnx hpre hn7 hm7 hq hk
        go_wp2_with (at_builtin; refine Gr.wpList_append_at hrun (by with_reducible rfl) rfl _ _ rfl rfl rfl rfl ?_)
        go_roundw
        case rel => exact HR2.out
        case measure => simp [intOf]; omega
      · have hkI : ¬ (k : Int) < (n : Int) := by omega
        have hqq := hq.out
        rw [List.take_of_length_le (by rw [HN.out]; omega), hfl] at hqq
        have hst := bMid_str hqq hpn wr (Below.refl _ _)
        have HE := hid (HB5.out.trans (hqq.below.mono HB5.out.size))
        clear hqq hq hk
        go_wp2
        go_ret2
        exact ⟨rfl, HE.out⟩
def unfV (S : List UInt8) : Value := .tuple #[.string (mk (unframeS S).1), .int .i64 ((unframeS S).2.1 : Int), .int .i64 ((unframeS S).2.2 : Int)]
set_option maxHeartbeats 8000000 in
theorem srUnframe_any (s : ByteArray) (w : World) (hs : s.size ≤ 100000000) : Calls Tryz.prog 32 #[.string s] w fun e w' => e = .returned (unfV s.data.toList) ∧ Below w.heap.size w w' := by
  have C1 := refUnframe_any s w (by unfold maxLen; omega)
  unfold unfrRes at C1
  unfold unfV
  obtain ⟨p1, n1, e1, hu⟩ : ∃ p n e, unframe s.data.toList = (p, n, e) := ⟨_, _, _, rfl⟩
  have hS : unframeS s.data.toList = (p1, n1, if e1 = 10 then 8 else e1) := by unfold unframeS; rw [hu]
  rw [hu] at C1
  rw [hS]
  simp only at C1 ⊢
  have HC := hid C1
  clear C1 hS hu
  generalize mk p1 = pb at *
  by_cases h10 : e1 = 10
  · subst h10
    rw [if_pos rfl]
    go_enter Tryz.func32, Tryz.ntmps32
    go_wp2_with (go_at_call 56; (with_reducible refine HC.out.mono ?_); rintro e w1 ⟨rfl, hb⟩)
    go_ret3
    exact ⟨rfl, hb⟩
  · rw [if_neg h10]
    have hq : ((e1 : Int) == 10) = false := by simp; omega
    clear h10
    go_enter Tryz.func32, Tryz.ntmps32
    go_wp2_with (go_at_call 56; (with_reducible refine HC.out.mono ?_); rintro e w1 ⟨rfl, hb⟩)
    go_ret3
    exact ⟨rfl, hb⟩
end Go.Proofs.YtbccikefccdekaaGreatDoor

