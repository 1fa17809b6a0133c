import Derived.Test.YtbccikefccdekaaGreatDoorSrAJ
import Derived.Test.YtbccikefccdekaaGreatDoorSnHdJ
import Derived.Test.YtbccikefccdekaaGreatDoorSnItJ
import Derived.Test.YtbccikefccdekaaGreatDoorWlGRowJ
import Derived.Test.YtbccikefccdekaaGreatDoorSnFrJ
/-
  LAYER 4 (snap), THE DOCUMENT's ANSWER: frames.
-/
namespace Go.Proofs.YtbccikefccdekaaGreatDoor
open Go.RowKit
set_option linter.unusedVariables false
set_option maxRecDepth 100000

def gsTy : Gr.RowTy ByteArray := ⟨46, 9, 1, 16, fun x => [.string x], .string ⟨#[]⟩⟩
theorem gsTy_ok : gsTy.Ok := ⟨fun _ => rfl, fun x u hu => by simp [gsTy] at hu; subst hu; rfl, by decide, Tryz.underlying46, by kernel_rfl, by kernel_rfl, rfl, by decide⟩
theorem encs_one (n : Int) : encs [n] = enc (nat64 n) := by rw [encs_cons]; simp [encs]
/-- What frames holds of the head between two rounds. -/
def FrH (b : Bs) (W1 : World) (u3 u4 : Value) (wr : World) : Prop := ∃ (k : Nat) (s : ByteArray), k ≤ b.vot.length ∧ u3 = .string s ∧ u4 = .int .i64 (k : Int) ∧ Below W1.heap.size W1 wr ∧ Hid (s.data.toList = encs ([b.ix, b.tm, (b.vot.length : Int)] ++ b.vot.take k) ∧ s.size ≤ 30 + 10 * k)
/-- .. and of the chunks. -/
def FrC (b : Bs) (W1 : World) (u7 u8 : Value) (wr : World) : Prop := ∃ (c m : Nat) (a : Option Addr) (cp : Nat), u7 = .slice a m cp ∧ u8 = .int .i64 ((1000 * c : Nat) : Int) ∧ c ≤ 4001 ∧ Hid (Gr.RMid gsTy W1 wr (.slice a m cp) (frB (mk (headS b)) :: ((chB b.data).take c).map frB) ∧ m = (frB (mk (headS b)) :: ((chB b.data).take c).map frB).length)
set_option maxHeartbeats 16000000 in
theorem srFrames_any {w : World} {b : Bs} {vv : Value} (h : BAt w vv b) (hr : rightS b = true) : Calls Tryz.prog 27 #[bval b vv] w fun e w' => ∃ a c, e = .returned (.slice a (framesB b).length c) ∧ Gr.RAt gsTy w' (.slice a (framesB b).length c) (framesB b) ∧ Below w.heap.size w w' := by
  obtain ⟨W1, hW1⟩ : ∃ W1, w.alloc (.cells #[.int .i64 b.ix, .int .i64 b.tm, vv, .string (mk b.data)] 24) = W1 := ⟨_, rfl⟩
  have hb1 : Below w.heap.size w W1 := by rw [← hW1]; exact (Below.refl _ _).alloc (Nat.le_refl _) _
  have o1 : own W1 w.heap.size (bcells b vv) 24 := by rw [← hW1]; exact own.new _ _ _
  have hv1 := (h.below hb1).vot
  have hvt := rightS_vot hr
  have hhl := headS_len hr
  have hdl : b.data.length ≤ 4000000 := (rightS_parts hr).2.2.2.2
  dsimp only [bval]
  obtain ⟨ao, cap, rfl, hat⟩ := hv1
  have HBx : Hid (∀ wx, Below W1.heap.size W1 wx → (wx.cell? ⟨w.heap.size, 0, none⟩ = some (.int .i64 b.ix) ∧ wx.cell? ⟨w.heap.size, 1, none⟩ = some (.int .i64 b.tm) ∧ wx.cell? ⟨w.heap.size, 2, none⟩ = some (.slice ao b.vot.length cap) ∧ wx.cell? ⟨w.heap.size, 3, none⟩ = some (.string (mk b.data))) ∧ Below W1.heap.size W1 wx) := hid (fun wx hb => by
    have o2 := o1.same (hb.block _ o1.lt)
    exact ⟨⟨(o2.cell 0).trans rfl, (o2.cell 1).trans rfl, (o2.cell 2).trans rfl, (o2.cell 3).trans rfl⟩, hb⟩)
  have HAt : Hid (∀ wx, Below W1.heap.size W1 wx → ∀ k, k < b.vot.length → ∃ sb so, ao = some ⟨sb, so, none⟩ ∧ wx.cell? ⟨sb, so + k, none⟩ = some (.int .i64 (b.vot.getD k 0))) := hid (fun wx hb k hk => by
    obtain ⟨sb, so, e, hlt, hc⟩ := hat (fun e => by rw [e] at hk; exact absurd hk (Nat.not_lt_zero _))
    refine ⟨sb, so, e, (hb.cell (p := ⟨sb, so + k, none⟩) hlt).trans (hc k _ ?_)⟩
    simp [List.getD, hk])
  have HI : Hid (∀ n wx, I64s n → Calls Tryz.prog 50 #[.int .i64 n] wx fun e w' => e = .returned (.string (mk (encs [n]))) ∧ Below wx.heap.size wx w') := hid (fun n wx hn => by
    rw [encs_one]
    exact refInt_any n wx hn.1 hn.2)
  have HL : Hid (∀ n, I64s n → (mk (encs [n])).size ≤ 10) := hid (fun n hn => by
    have := encs_length [n] (by intro x hx; simp at hx; subst hx; exact hn)
    rw [mk_size]
    simpa using this)
  have HDr : Hid (∀ wx, Below W1.heap.size W1 wx → Below W1.heap.size W1 wx.drew) := hid (fun wx h => Below.drew h)
  have HTr : Hid (∀ wx wy, Below W1.heap.size W1 wx → Below wx.heap.size wx wy → Below W1.heap.size W1 wy) := hid (fun wx wy h k => h.trans (k.mono h.size))
  have HRf := hid (Below.refl W1.heap.size W1)
  have hIx := h.ix
  have hTm := h.tm
  have hVl : I64s (b.vot.length : Int) := by unfold I64s; omega
  have H1 := hid (fun wx => HI.out b.ix wx hIx)
  have H2 := hid (fun wx => HI.out b.tm wx hTm)
  have H3 := hid (fun wx => HI.out (b.vot.length : Int) wx hVl)
  have l1 := HL.out _ hIx
  have l2 := HL.out _ hTm
  have l3 := HL.out _ hVl
  have HS0 : Hid ((mk (encs [b.ix]) ++ mk (encs [b.tm]) ++ mk (encs [(b.vot.length : Int)])).data.toList = encs ([b.ix, b.tm, (b.vot.length : Int)] ++ b.vot.take 0) ∧ (mk (encs [b.ix]) ++ mk (encs [b.tm]) ++ mk (encs [(b.vot.length : Int)])).size ≤ 30 + 10 * 0) := hid (by
    constructor
    · rw [mk_append, mk_append, mk_data, List.take_zero, List.append_nil]
      unfold encs
      simp only [List.flatMap_cons, List.flatMap_nil, List.append_nil, List.append_assoc]
    · rw [mk_append, mk_append, mk_size, List.length_append, List.length_append]
      rw [mk_size] at l1 l2 l3
      omega)
  have HV64 := hid h.v64
  have q1 : ¬ 9223372036854775807 < (mk (encs [b.ix])).size + (mk (encs [b.tm])).size := by omega
  have q2 : ¬ 9223372036854775807 < (mk (encs [b.ix])).size + (mk (encs [b.tm])).size + (mk (encs [(b.vot.length : Int)])).size := by omega
  clear hat o1 hIx hTm
  generalize mk (encs [b.ix]) = s1 at *
  generalize mk (encs [b.tm]) = s2 at *
  generalize mk (encs [(b.vot.length : Int)]) = s3 at *
  go_enter Tryz.func27, Tryz.ntmps27
  go_wp2
  go_upto_region 1 with (fail)
  go_region_held3 (fun wx => (wx.cell? ⟨w.heap.size, 0, none⟩ = some (.int .i64 b.ix) ∧ wx.cell? ⟨w.heap.size, 1, none⟩ = some (.int .i64 b.tm) ∧ wx.cell? ⟨w.heap.size, 2, none⟩ = some (.slice ao b.vot.length cap) ∧ wx.cell? ⟨w.heap.size, 3, none⟩ = some (.string (mk b.data))) ∧ Below W1.heap.size W1 wx)
    (first | (with_reducible exact HBx.out _ hbk) | (with_reducible (refine HBx.out _ ?_; repeat (first | exact HRf.out | exact And.right (by assumption) | refine HDr.out _ ?_))) | (with_reducible assumption))
    (first
      | (go_at_call 50; (with_reducible refine (H1.out _).mono ?_); rintro e w3 ⟨rfl, hbi⟩; have hbk : Below W1.heap.size W1 w3 := HTr.out _ _ (And.right (by assumption)) hbi)
      | (go_at_call 50; (with_reducible refine (H2.out _).mono ?_); rintro e w3 ⟨rfl, hbi⟩; have hbk : Below W1.heap.size W1 w3 := HTr.out _ _ (And.right (by assumption)) hbi)
      | (go_at_call 50; (with_reducible refine (H3.out _).mono ?_); rintro e w3 ⟨rfl, hbi⟩; have hbk : Below W1.heap.size W1 w3 := HTr.out _ _ (And.right (by assumption)) hbi))
  all_goals
    have HB0 := hid hbk
    clear hbk q1 q2 H1 H2 H3 l1 l2 l3
    go_wp2
    go_loopw [3, 4] (FrH b W1) (fun _ i _ => b.vot.length - (intOf i).toNat)
    case atStart => exact ⟨0, _, Nat.zero_le _, rfl, rfl, HB0.out, HS0⟩
    case round =>
      clear HS0 HB0
      obtain ⟨k, s, hk, rfl, rfl, hbw, hS⟩ := hrel
      obtain ⟨⟨p0, p1, p2, p3⟩, -⟩ := HBx.out _ hbw
      by_cases hkl : k < b.vot.length
      · have hkI : (k : Int) < (b.vot.length : Int) := by omega
        obtain ⟨sb, so, rfl, c0⟩ := HAt.out _ hbw k hkl
        have hx64 : I64s (b.vot.getD k 0) := by
          refine HV64.out _ ?_
          simp [List.getD, hkl]
        have H4 := hid (fun wx => HI.out _ wx hx64)
        have l4 := HL.out _ hx64
        have hsz := hS.out.2
        have HNx : Hid (∀ wx, Below W1.heap.size W1 wx → FrH b W1 (.string (s ++ mk (encs [b.vot.getD k 0]))) (.int .i64 ((k : Int) + 1)) wx) := hid (fun wx hbx => ⟨k + 1, _, by omega, rfl, by push_cast; rfl, hbx, hid ⟨by
          have e : b.vot.take (k + 1) = b.vot.take k ++ [b.vot.getD k 0] := by
            rw [List.take_succ_eq_append_getElem hkl]
            simp [List.getD, hkl]
          rw [e, append_data, hS.out.1, mk_data]
          unfold encs
          simp only [List.flatMap_append, List.append_assoc], by rw [ByteArray.size_append]; omega⟩⟩)
        have q3 : ¬ 9223372036854775807 < s.size + (mk (encs [b.vot.getD k 0])).size := by omega
        have HBW := hid hbw
        clear hx64 l4 hsz hS hkl hk hbw
        generalize b.vot.getD k 0 = x at *
        generalize mk (encs [x]) = sx at *
        go_wp2_with (go_at_call 50; (with_reducible refine (H4.out _).mono ?_); rintro e w3 ⟨rfl, hbi⟩; have HBk := hid (HTr.out _ _ HBW.out hbi); clear hbi)
        go_roundw
        case rel => exact HNx.out _ HBk.out
        case measure => simp [intOf]; omega
      · obtain rfl : k = b.vot.length := by omega
        have hkI : ¬ (b.vot.length : Int) < (b.vot.length : Int) := by omega
        have hd64 : I64s (b.data.length : Int) := by unfold I64s; omega
        have hS1 := hS.out.1
        have hsz := hS.out.2
        rw [List.take_length] at hS1
        have l5 := HL.out _ hd64
        have H5 := hid (fun wx => HI.out _ wx hd64)
        have ht : s ++ mk (encs [(b.data.length : Int)]) = mk (headS b) := by
          refine Go.WideShapes.bytes_inj ?_
          rw [append_data, hS1, mk_data, mk_data]
          have e : headN b = [b.ix, b.tm, (b.vot.length : Int)] ++ b.vot ++ [(b.data.length : Int)] := rfl
          unfold headS
          rw [e]
          unfold encs
          simp only [List.flatMap_append]
        have H6 : Hid (∀ wx, Calls Tryz.prog 51 #[.string (s ++ mk (encs [(b.data.length : Int)]))] wx fun e w' => e = .returned (.tuple #[.string (frB (mk (headS b))), .int .i64 0]) ∧ Below wx.heap.size wx w') := hid (fun wx => by
          rw [ht]
          exact refFrame_any (mk (headS b)) wx (by rw [mk_size]; omega))
        have q4 : ¬ 9223372036854775807 < s.size + (mk (encs [(b.data.length : Int)])).size := by omega
        have hdsz : (mk b.data).size = b.data.length := mk_size _
        have HBW := hid hbw
        have HC0 : Hid (∀ w6, Below W1.heap.size W1 w6 → FrC b W1 (.slice (some ⟨w6.heap.size, 0, none⟩) 1 1) (.int .i64 0) (w6.alloc (.cells #[.string (frB (mk (headS b)))] 9))) := hid (fun w6 hb6 => by
          have hbx : Below W1.heap.size W1 (w6.alloc (.cells #[.string (frB (mk (headS b)))] 9)) := hb6.alloc hb6.size _
          refine ⟨0, 1, some ⟨w6.heap.size, 0, none⟩, 1, rfl, rfl, by omega, hid ⟨⟨Gr.rOwn_made gsTy_ok (own.new _ _ _) rfl 1 rfl (by decide), fun x e => ?_, hbx⟩, rfl⟩⟩
          cases e
          exact hb6.size)
        clear hS hS1 hsz l5 ht hd64 hbw
        generalize mk (encs [(b.data.length : Int)]) = s5 at *
        go_wp2_with (first
          | (go_at_call 50; (with_reducible refine (H5.out _).mono ?_); rintro e w3 ⟨rfl, hbi⟩; have HBk := hid (HTr.out _ _ HBW.out hbi); clear hbi)
          | (go_at_call 51; (with_reducible refine (H6.out _).mono ?_); rintro e w4 ⟨rfl, hbi⟩; have HBk2 := hid (HTr.out _ _ HBk.out hbi); clear hbi))
        go_loopw [7, 8] (FrC b W1) (fun _ i _ => b.data.length - (intOf i).toNat)
        case atStart => exact HC0.out _ HBk2.out
        case round =>
          clear p0 p1 p2 p3 HC0 HBk HBk2 HBW H5 H6 q4 HAt
          obtain ⟨c, m, a, cp, rfl, rfl, hc, hR⟩ := hrel
          have hbw := hR.out.1.below
          obtain ⟨⟨p0, p1, p2, p3⟩, -⟩ := HBx.out _ hbw
          by_cases hlt : 1000 * c < b.data.length
          · have hx := chB_at hlt
            have hnx := take_next hx
            obtain ⟨x, hxe⟩ : ∃ x, mk ((b.data.drop (1000 * c)).take 1000) = x := ⟨_, rfl⟩
            rw [hxe] at hnx
            have hxs : x.size ≤ 1000 := by rw [← hxe, mk_size, List.length_take]; omega
            have H7 : Hid (∀ wx, Calls Tryz.prog 51 #[.string x] wx fun e w' => e = .returned (.tuple #[.string (frB x), .int .i64 0]) ∧ Below wx.heap.size wx w') := hid (fun wx => refFrame_any x wx (by omega))
            have hml : (frB (mk (headS b)) :: ((chB b.data).take c).map frB).length ≤ 5000 := by
              rw [List.length_cons, List.length_map, List.length_take]; omega
            have hc2 : c + 1 ≤ 4001 := by omega
            have HPu : Hid (∀ w7, Below wr.heap.size wr w7 → ∃ a5 c5 w5, (Builtin.append_ #[46, 46] 46 #[.slice a m cp, .slice (some ⟨w7.heap.size, 0, none⟩) 1 1]).run Tryz.prog (w7.alloc (.cells #[.string (frB x)] 9)) = .ok (.slice a5 (m + 1) c5) w5 ∧ Hid (FrC b W1 (.slice a5 (m + 1) c5) (.int .i64 ((1000 * (c + 1) : Nat) : Int)) w5)) := hid (fun w7 hb7 => by
              obtain ⟨h1, h2⟩ := hR.out
              obtain ⟨a5, c5, w5, hrun, h5⟩ := (h1.later hb7).push gsTy_ok 46 9 (frB x) #[.string (frB x)] rfl (by omega)
              rw [← h2] at hrun h5
              have e : (frB (mk (headS b)) :: ((chB b.data).take c).map frB) ++ [frB x] = frB (mk (headS b)) :: ((chB b.data).take (c + 1)).map frB := by
                rw [← hnx, List.map_append]; rfl
              rw [e] at h5
              exact ⟨a5, c5, w5, hrun, hid ⟨c + 1, m + 1, a5, c5, rfl, rfl, hc2, hid ⟨h5, by rw [← e, List.length_append, ← h2]; rfl⟩⟩⟩)
            have HBW := hid hbw
            obtain ⟨k, hk⟩ : ∃ k, 1000 * c = k := ⟨_, rfl⟩
            have hk2 : 1000 * (c + 1) = k + 1000 := by omega
            rw [hk] at hlt hxe
            rw [hk2] at HPu
            rw [hk]
            have hkI : (k : Int) < (b.data.length : Int) := by omega
            have hwr : IntKind.i64.wrap ((k : Int) + 1000) = (k : Int) + 1000 := by rw [IntKind.wrap_i64]; omega
            have hmes : b.data.length - (k + 1000) < b.data.length - k := by omega
            by_cases hm : k + 1000 ≤ b.data.length
            · have hmin : min (b.data.length : Int) ((k : Int) + 1000) = (k : Int) + 1000 := by omega
              have hsl := fun wx => slice_lh (s := mk b.data) (lo := (k : Int)) (hi := (k : Int) + 1000) (l := (b.data.drop k).take 1000) (by omega) (by omega) (by omega) (by rw [mk_data]; congr 1; omega) wx
              rw [hxe] at hsl
              clear hxe hx hnx hk hk2 hc hlt hml hR hbw
              go_wp2_with (first
                | (go_at_call 51; (with_reducible refine (H7.out _).mono ?_); rintro e w7 ⟨rfl, hb7⟩; obtain ⟨a5, c5, w5, hrun, HN⟩ := HPu.out _ hb7)
                | (at_builtin; refine Gr.wpList_append_at hrun (by with_reducible rfl) rfl _ _ rfl rfl rfl rfl ?_))
              go_roundw
              case rel => exact HN.out
              case measure => simp [intOf]; omega
            · have hmin : min (b.data.length : Int) ((k : Int) + 1000) = (b.data.length : Int) := by omega
              have hsl := fun wx => slice_lh (s := mk b.data) (lo := (k : Int)) (hi := (b.data.length : Int)) (l := (b.data.drop k).take 1000) (by omega) (by omega) (by omega) (by
                rw [mk_data]
                have e1 : (b.data.drop k).length ≤ 1000 := by rw [List.length_drop]; omega
                rw [List.take_of_length_le e1, List.take_of_length_le (by rw [List.length_drop]; omega)]
                rfl) wx
              rw [hxe] at hsl
              clear hxe hx hnx hk hk2 hc hlt hml hR hbw
              go_wp2_with (first
                | (go_at_call 51; (with_reducible refine (H7.out _).mono ?_); rintro e w7 ⟨rfl, hb7⟩; obtain ⟨a5, c5, w5, hrun, HN⟩ := HPu.out _ hb7)
                | (at_builtin; refine Gr.wpList_append_at hrun (by with_reducible rfl) rfl _ _ rfl rfl rfl rfl ?_))
              go_roundw
              case rel => exact HN.out
              case measure => simp [intOf]; omega
          · have hkI : ¬ (((1000 * c : Nat) : Int) < (b.data.length : Int)) := by omega
            have he := chB_end (d := b.data) (c := c) (by omega)
            obtain ⟨h1, h2⟩ := hR.out
            rw [he] at h1 h2
            have HQ : Hid (Gr.RAt gsTy wr (.slice a (framesB b).length cp) (framesB b) ∧ Below w.heap.size w wr ∧ m = (framesB b).length) := hid ⟨by rw [← show m = (framesB b).length from h2]; exact h1.row.rAt, hb1.trans (hbw.mono hb1.size), h2⟩
            have hmf : m = (framesB b).length := h2
            subst hmf
            clear h1 h2 he hR hbw hlt
            go_wp2
            go_ret
            exact ⟨a, cp, rfl, HQ.out.1, HQ.out.2.1⟩
end Go.Proofs.YtbccikefccdekaaGreatDoor

