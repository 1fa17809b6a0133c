/-
  GENERAL: 'string(append([]byte(s), c))': the runs of its three operations.
-/
import Derived.Test.YtnbghghkahaenaaGRow
import Derived.Lib.ConvBytes
import Derived.Laws.IdiomStrings
import Derived.ArgAppend
namespace Go.Proofs.Ytnbghghkahaenaa
open Go.RowKit
set_option linter.unusedVariables false
set_option maxRecDepth 100000

def u8Ty : RowTy UInt8 := ⟨35, 5, 1, 1, fun c => [.int .u8 c.toNat], .int .u8 0⟩
theorem u8Ty_ok : u8Ty.Ok := ⟨fun _ => rfl, fun x u hu => by simp [u8Ty] at hu; subst hu; rfl, by decide, Try.underlying35, by kernel_rfl, by kernel_rfl, rfl, by decide⟩
theorem u8_flat (l : List UInt8) : u8Ty.flat l = l.map (fun c => Value.int .u8 c.toNat) := by
  induction l with
  | nil => rfl
  | cons x r ih => rw [flat_cons, ih]; rfl
def pushS (s : ByteArray) (c : UInt8) : ByteArray := ⟨(s.data.toList ++ [c]).toArray⟩
theorem pushS_list (s : ByteArray) (c : UInt8) : (pushS s c).data.toList = s.data.toList ++ [c] := rfl
theorem pushS_size (s : ByteArray) (c : UInt8) : (pushS s c).size = s.size + 1 := by
  show (s.data.toList ++ [c]).toArray.size = _
  simp
structure StrPush (w : World) (s : ByteArray) (c : UInt8) (cap : Nat) (w1 : World) (a3 : Option Addr) (c3 : Nat) (w3 : World) : Prop where
  e1 : Hid ((convert 9 35 (.string s)).run Try.prog w = .ok (.slice (some ⟨w.heap.size, 0, none⟩) s.size cap) w1)
  e2 : Hid ((Builtin.append_ #[35, 35] 35 #[.slice (some ⟨w.heap.size, 0, none⟩) s.size cap, .slice (some ⟨w1.heap.size, 0, none⟩) 1 1]).run Try.prog (w1.alloc (.cells #[.int .u8 c.toNat] 5)) = .ok (.slice a3 (s.size + 1) c3) w3)
  e3 : Hid ((convert 35 9 (.slice a3 (s.size + 1) c3)).run Try.prog w3 = .ok (.string (pushS s c)) w3)
  below : Hid (Below w.heap.size w w3)
theorem str_push (w : World) (s : ByteArray) (c : UInt8) (hs : s.size ≤ 1000000) : ∃ cap w1 a3 c3 w3, StrPush w s c cap w1 a3 c3 w3 := by
  obtain ⟨i, hi, hz0, hzs, hby⟩ := u8Ty_ok.parts
  have hr1 := Lib.run_convert_string_bytes (P := Try.prog) w 9 35 5 s Try.underlying9 Try.underlying35 Try.underlying5
  have hz1 := Lib.bytesWorld_size w 5 s
  have hn1 := Lib.bytesWorld_at_new w 5 s
  have hcell := Lib.bytesWorld_cell w 5 s
  have hold := Lib.bytesWorld_at_old w 5 s
  have hge : s.size ≤ grownCap w s.size 0 5 := grownCap_ge _ _ _ _
  have hcs : (Lib.bytesCells w 5 s).size = grownCap w s.size 0 5 := by
    unfold Lib.bytesCells
    rw [Array.size_append, Array.size_map, Array.size_replicate]
    show s.size + _ = _
    omega
  have hb1 : Below w.heap.size w (Lib.bytesWorld w 5 s) := ⟨rfl, rfl, rfl, by rw [hz1]; omega, fun k hk => hold k hk⟩
  generalize hcap : grownCap w s.size 0 5 = cap at *
  generalize hw1 : Lib.bytesWorld w 5 s = w1 at *
  have hblk : (w1.alloc (.cells #[.int .u8 c.toNat] 5)).heap[w.heap.size]? = some (.cells (Lib.bytesCells w 5 s) 5 ((Lib.bytesCells w 5 s).size, (Lib.bytesCells w 5 s).size + 1)) := by
    rw [Below.heap_alloc _ _ _ (by rw [hz1]; omega)]
    exact hn1
  have hW : ∀ j, j < s.size → (w1.alloc (.cells #[.int .u8 c.toNat] 5)).cell? ⟨w.heap.size, j, none⟩ = some (.int .u8 (s.data.toList.getD j 0).toNat) := fun j hj => by
    have h1 := hcell j hj
    unfold World.cell? at h1 ⊢
    rw [hblk]
    rw [hn1] at h1
    exact h1
  have hbox : ∀ j u, ([Value.int .u8 c.toNat] : List Value)[j]? = some u → (w1.alloc (.cells #[.int .u8 c.toNat] 5)).cell? ((⟨w1.heap.size, 0, none⟩ : Addr).add j) = some u := fun j u hj => by
    match j, hj with
    | 0, hj =>
      rw [Addr.add_lit]
      have := (own.new w1 #[.int .u8 c.toNat] 5).cell 0
      rw [show (0 : Nat) + 0 = 0 from rfl, this]
      simpa using hj
    | j + 1, hj => simp at hj
  have hb2 : Below w.heap.size w (w1.alloc (.cells #[.int .u8 c.toNat] 5)) := hb1.alloc hb1.size _
  have hl : ∀ (j : Nat) (hj : j < (s.data.toList ++ [c]).length), j < s.size → (s.data.toList ++ [c])[j] = s.data.toList.getD j 0 := fun j hj h => by
    rw [List.getElem_append_left (by simpa using h)]
    simp [List.getD, h]
  have hlc : ∀ (hj : s.size < (s.data.toList ++ [c]).length), (s.data.toList ++ [c])[s.size] = c := fun hj => by
    rw [List.getElem_append_right (by simp)]
    simp
  have hlen : (s.data.toList ++ [c]).length = s.size + 1 := by simp
  by_cases hr : s.size + 1 ≤ cap
  · have h2 := run_append_room_cells (P := Try.prog) (w1.alloc (.cells #[.int .u8 c.toNat] 5)) 35 35 5 i Try.underlying35 hi w.heap.size 0 s.size cap ⟨w1.heap.size, 0, none⟩ 1 1 [.int .u8 c.toNat] (by rw [hzs]; rfl) hbox (by simp [Value.oneCell']) hr
      (fun j hj => by
        have hj0 : j = 0 := by simpa using hj
        subst hj0
        rw [hzs]
        unfold World.cell?
        rw [hblk]
        simp only [Option.isSome_iff_exists]
        exact ⟨(Lib.bytesCells w 5 s)[s.size]'(by rw [hcs]; omega), by show (Lib.bytesCells w 5 s)[0 + s.size * 1 + 0]? = _; rw [show 0 + s.size * 1 + 0 = s.size by omega]; exact Array.getElem?_eq_getElem (by rw [hcs]; omega)⟩)
      (fun j hj => by
        have hj0 : j = 0 := by simpa using hj
        subst hj0
        rw [hzs]
        simp only [World.frozen?, hblk]
        have h4 := hcs
        have h5 : u8Ty.n = 1 := rfl
        rw [h5]
        simp
        omega)
    rw [hzs] at h2
    rw [show 0 + s.size * u8Ty.n = s.size by show 0 + s.size * 1 = s.size; omega] at h2
    refine ⟨cap, w1, _, _, _, hid hr1, hid h2, hid ?_, hid ?_⟩
    · have h3 := run_convert_bytes_back (P := Try.prog) ((w1.alloc (.cells #[.int .u8 c.toNat] 5)).setCells w.heap.size s.size [.int .u8 c.toNat]) 35 9 5 ⟨w.heap.size, 0, none⟩ cap (s.data.toList ++ [c]) Try.underlying35 Try.underlying5 Try.underlying9 (fun j hj => by
        rw [Addr.add_lit, Nat.zero_add]
        show ((w1.alloc (.cells #[.int .u8 c.toNat] 5)).setCell ⟨w.heap.size, s.size, none⟩ (.int .u8 c.toNat)).cell? ⟨w.heap.size, j, none⟩ = _
        by_cases hjs : j = s.size
        · subst hjs
          rw [hlc]
          unfold World.cell? World.setCell
          simp only [Array.getElem?_modify, if_true]
          rw [hblk]
          simp only [Option.map_some]
          show ((Lib.bytesCells w 5 s).setIfInBounds s.size (.int .u8 c.toNat))[s.size]? = _
          rw [Array.getElem?_setIfInBounds, if_pos rfl, if_pos (by rw [hcs]; omega)]
        · have hj2 : j < s.size := by rw [hlen] at hj; omega
          rw [hl j hj hj2, ← hW j hj2]
          unfold World.cell? World.setCell
          simp only [Array.getElem?_modify, if_true]
          rw [hblk]
          simp
          rw [Array.getElem?_setIfInBounds_ne (by omega)])
      rw [hlen] at h3
      exact h3
    · exact hb2.setCell (Nat.le_refl _) _
  · obtain ⟨v', w3, h2, hown, hgr⟩ := run_append_arg_grows (P := Try.prog) (w1.alloc (.cells #[.int .u8 c.toNat] 5)) 35 35 5 i (.int .u8 0) 1 1 Try.underlying35 hi hz0 hzs hby rfl (by omega) ⟨w.heap.size, 0, none⟩ s.size cap (u8Ty.flat s.data.toList) (by rw [flat_length u8Ty_ok]; show s.data.toList.length * 1 = _; simp)
      (fun j u hj => by
        rw [Addr.add_lit, Nat.zero_add]
        rw [u8_flat, List.getElem?_map] at hj
        obtain ⟨x, hx, rfl⟩ := Option.map_eq_some_iff.1 hj
        have hjs : j < s.size := by
          have := (List.getElem?_eq_some_iff.1 hx).1
          simpa using this
        rw [hW j hjs]
        simp [List.getD, hx])
      ⟨w1.heap.size, 0, none⟩ 1 1 [.int .u8 c.toNat] rfl hbox (by omega) (by unfold maxLen; omega) (by omega)
    have hm : ROwn u8Ty w3 v' (s.data.toList ++ [c]) := by
      unfold ROwn
      rw [hlen, flat_append]
      refine ⟨hown.1, ?_⟩
      rcases hown.2 with h | ⟨g, cp, cur, hv, hB, h⟩
      · exact .inl h
      · exact .inr ⟨g, cp, cur, hv, Nat.zero_le _, h⟩
    obtain ⟨g, h5, h6, h7, -⟩ : ∃ g, ∃ cp, v' = .slice (some ⟨g, 0, none⟩) (s.size + 1) cp ∧ (∀ (j : Nat) x, (s.data.toList ++ [c])[j]? = some x → w3.cell? ⟨g, j, none⟩ = some (.int .u8 x.toNat)) ∧ True := by
      obtain ⟨a3, c3, rfl, h8, h9, h10⟩ := hm.slice
      obtain ⟨g, rfl, hg, hc, -⟩ := hm.at u8Ty_ok (by rw [hlen]; omega)
      refine ⟨g, c3, by rw [hlen], fun j x hx => ?_, trivial⟩
      have := hc j x hx 0 _ rfl
      rwa [show j * u8Ty.n + 0 = j by show j * 1 + 0 = j; omega] at this
    subst h6
    refine ⟨cap, w1, _, _, w3, hid hr1, hid h2, hid ?_, hid ?_⟩
    · have h3 := run_convert_bytes_back (P := Try.prog) w3 35 9 5 ⟨g, 0, none⟩ h5 (s.data.toList ++ [c]) Try.underlying35 Try.underlying5 Try.underlying9 (fun j hj => by
        rw [Addr.add_lit, Nat.zero_add]
        exact h7 j _ (List.getElem?_eq_getElem hj))
      rw [hlen] at h3
      exact h3
    · exact hb2.trans ((Chg.of_grown hgr).below hb2.size (fun b e => by cases e))
end Go.Proofs.Ytnbghghkahaenaa
