/-
  LAYER 2 (disk), the program's calls that read: Read, Size, List.
-/
import Derived.Test.YtcinegkikahchaaDkA
import Derived.Test.YtcinegkikahchaaKeysLay
namespace Go.Proofs.Ytcinegkikahchaa
open Go.RowKit Go.Maps
set_option linter.unusedVariables false
set_option maxRecDepth 100000

/-- string(f.data). -/
theorem file_string {w : World} {x : Fl} (h : FileOk w x) : (convert 66 9 x.v).run Try.prog w = .ok (.string (mk x.data)) w := by
  by_cases h0 : x.data = []
  · obtain ⟨ao, cap, hv⟩ := h.slice
    rw [hv, h0]
    have := run_convert_bytes_arg (P := Try.prog) w 66 5 Try.underlying66 Try.underlying5 0 0 0 0 [] rfl (fun i hi => by omega) 9 Try.underlying9
    cases ao with
    | none => rfl
    | some q =>
      have hb : (∃ g, q = ⟨g, 0, none⟩) := by
        rcases h.row.2 with ⟨hv', _⟩ | ⟨g, cap', cur, hv', _⟩
        · rw [hv] at hv'; simp at hv'
        · rw [hv] at hv'; simp at hv'; exact ⟨g, hv'.1⟩
      obtain ⟨g, rfl⟩ := hb
      have := run_convert_bytes_arg (P := Try.prog) w 66 5 Try.underlying66 Try.underlying5 g 0 0 cap [] rfl (fun i hi => by omega) 9 Try.underlying9
      exact this
  · obtain ⟨g, cap, hv, _, _, _, _, hc, _⟩ := h.row.shape h0
    rw [hv]
    exact run_string rfl hc

section
variable {w w' : World} {S : Nat → Prop} {a mb : Nat} {F : List Fl} {s : Dk}

def ReadV (r : List UInt8 × Int) : Value := .tuple #[.string (mk r.1), .int .i64 r.2]
theorem read_any (h : DiskRep w S a mb F s) (n : ByteArray) (hn : n.size ≤ maxLen) : Calls Try.prog 22 #[.pointer (some ⟨a, 0, none⟩), .string n] w fun e w' =>
    e = .returned (ReadV (rd s n.data.toList)) ∧ w = w' := by
  have hfind := fun w h => find_any (w := w) (S := S) (a := a) (mb := mb) (F := F) (s := s) h n hn
  cases hd : s.dead with
  | true =>
    have hv : FindV s F n.data.toList = .tuple #[.pointer none, .int .i64 7] := by unfold FindV; rw [hd]; rfl
    have hr : ReadV (rd s n.data.toList) = .tuple #[.string ⟨#[]⟩, .int .i64 7] := by unfold rd; rw [hd]; rfl
    rw [hv] at hfind
    rw [hr]
    have H := hid h
    have HF := hid hfind
    clear hd hv hr hfind h
    go_enter Try.func22, Try.ntmps22
    go_wp2_with (go_at_call 41; (with_reducible refine (HF.out _ H.out).mono ?_); rintro e w1 ⟨rfl, rfl⟩)
    go_ret2
    exact ⟨rfl, rfl⟩
  | false =>
    have hfa := h.fnd n.data.toList
    cases hx : fndK Fl.key n.data.toList F with
    | none =>
      rw [hx] at hfa
      have hv : FindV s F n.data.toList = .tuple #[.pointer none, .int .i64 4] := by unfold FindV; rw [hd, hx]; rfl
      have hr : ReadV (rd s n.data.toList) = .tuple #[.string ⟨#[]⟩, .int .i64 4] := by unfold rd; rw [hd, hfa]; rfl
      rw [hv] at hfind
      rw [hr]
      have H := hid h
      have HF := hid hfind
      clear hd hv hr hfind h hx hfa
      go_enter Try.func22, Try.ntmps22
      go_wp2_with (go_at_call 41; (with_reducible refine (HF.out _ H.out).mono ?_); rintro e w1 ⟨rfl, rfl⟩)
      go_ret2
      exact ⟨rfl, rfl⟩
    | some x =>
      rw [hx] at hfa
      have hv : FindV s F n.data.toList = .tuple #[x.ptr, .int .i64 0] := by unfold FindV; rw [hd, hx]; rfl
      have hr : ReadV (rd s n.data.toList) = .tuple #[.string (mk x.data), .int .i64 0] := by unfold rd; rw [hd, hfa]; rfl
      rw [hv] at hfind
      rw [hr]
      have hf := h.files x (fndK_some hx).1
      have c0 := hf.blk.cell 0
      simp at c0
      have hs := file_string hf
      have H := hid h
      have HF := hid hfind
      clear hd hv hr hfind h hx hfa hf
      unfold Fl.ptr at *
      generalize mk x.data = z at *
      go_enter Try.func22, Try.ntmps22
      go_wp2_with (go_at_call 41; (with_reducible refine (HF.out _ H.out).mono ?_); rintro e w1 ⟨rfl, rfl⟩)
      go_ret2
      exact ⟨rfl, rfl⟩

/-! ### Size -/
/-- What the range has met: the files whose names are not left. -/
def met (left : Lit → Bool) (F : List Fl) : Nat := ((F.filter fun x => !left (.string x.name)).map fun x => x.data.length).sum
theorem met_all {left : Lit → Bool} (h : ∀ kl, left kl = false) (F : List Fl) : met left F = sz (F.map Fl.abs) := by
  unfold met sz
  rw [List.filter_eq_self.2 (fun x _ => by simp [h])]
  simp [List.map_map, Function.comp_def, Fl.abs]
theorem met_none (F : List Fl) : met (Maps.has (.map (entOf F))) F = 0 := by
  unfold met
  have : F.filter (fun x => !Maps.has (.map (entOf F)) (.string x.name)) = [] := by
    rw [List.filter_eq_nil_iff]
    intro x hx
    rw [has_ent]
    have : (fndK Fl.key x.name F).isSome = true := by
      unfold fndK
      rw [List.find?_isSome]
      exact ⟨x, hx, by simp⟩
    simp [this]
  rw [this]; rfl
theorem met_step {left : Lit → Bool} {x : Fl} : ∀ {F : List Fl}, RiseK Fl.key F → x ∈ F → left (.string x.name) = true → met (fun z => left z && !z.sameKey (.string x.name)) F = met left F + x.data.length
  | [], _, h, _ => by cases h
  | y :: r, hr, h, hl => by
    obtain ⟨h1, h2⟩ := List.pairwise_cons.1 hr
    have hcons : ∀ (lf : Lit → Bool), met lf (y :: r) = (if lf (.string y.name) = true then 0 else y.data.length) + met lf r := by
      intro lf
      unfold met
      by_cases hb : lf (.string y.name) = true
      · rw [List.filter_cons_of_neg (by simp [hb]), if_pos hb]; omega
      · rw [List.filter_cons_of_pos (by simpa using hb), if_neg hb]; simp
    rw [hcons, hcons]
    by_cases hxy : x = y
    · subst hxy
      have hrest : met (fun z => left z && !z.sameKey (.string x.name)) r = met left r := by
        unfold met
        congr 2
        apply List.filter_congr
        intro z hz
        have : z.name ≠ x.name := fun e => blt_ne (h1 z hz) e.symm
        simp [sameKey_string, this]
      rw [hrest, if_neg (by simp [sameKey_string]), if_pos hl]; omega
    · have hxr : x ∈ r := by
        rcases List.mem_cons.1 h with e | e
        · exact absurd e hxy
        · exact e
      have hne : y.name ≠ x.name := blt_ne (h1 x hxr)
      rw [met_step h2 hxr hl]
      have : (left (.string y.name) && !(Lit.string y.name).sameKey (.string x.name)) = left (.string y.name) := by simp [sameKey_string, hne]
      simp only [this]; omega
theorem met_le (left : Lit → Bool) (F : List Fl) : met left F ≤ sz (F.map Fl.abs) := by
  induction F with
  | nil => simp [met, sz]
  | cons y r ih =>
    unfold met sz at *
    by_cases hb : left (.string y.name) = true
    · rw [List.filter_cons_of_neg (by simp [hb])]; simp at ih ⊢; omega
    · rw [List.filter_cons_of_pos (by simpa using hb)]; simp [Fl.abs] at ih ⊢; omega

set_option maxHeartbeats 2000000 in
theorem size_any (h : DiskRep w S a mb F s) : Calls Try.prog 19 #[.pointer (some ⟨a, 0, none⟩)] w fun e w' => e = .returned (.int .i64 (sz s.L)) ∧ Below w.heap.size w w' := by
  obtain ⟨left, hw, _⟩ := h.head
  have c1 := hw.cell 1
  simp at c1
  have hown := h.map
  have hrise := h.rise
  have htot : sz s.L ≤ 10000000 := by have := h.ok.room; have := h.ok.most; omega
  have hfiles := hid h.files
  rw [h.abs] at htot ⊢
  have hlt : a < w.heap.size := hw.lt
  clear hw h
  go_enter Try.func19, Try.ntmps19
  go_wp2_with (first
    | (at_range; refine wpList_range_own _ rfl _ 61 rfl 9 65 keyedStr Try.underlying61 ptrElem mb F.length _ rfl hown ?_; intro w0 hrg0 hg0 hs0)
    | go_in)
  go_frame
  have hb0 : Below w.heap.size w w0 := ⟨hg0.os, hg0.tape, hg0.output, hg0.size, fun k hk => hg0.block k hk (by simp)⟩
  clear hg0
  go_loopw [3] (fun u wr => ∃ (left : Lit → Bool) (cnt : Nat), wr.ranges Try.prog 9 ptrElem mb w.heap.size F.length (.map (entOf F)) left cnt ∧ u = .int .i64 (met left F : Int) ∧ Below w.heap.size w wr)
    (fun _ wr => wr.rangeLeft mb w.heap.size)
  case atStart => exact ⟨_, _, hrg0, by rw [met_none]; rfl, hb0⟩
  case round =>
    obtain ⟨left, cnt, hrg, rfl, hbw⟩ := hrel
    go_wp2_with (first
      | (at_next; refine wpList_next_ranges (α := List UInt8) (β := Value) _ rfl _ rfl 9 keyedStr ptrElem encStr (fun v => v) (fun key kl hk => by obtain ⟨x, hx, _⟩ := Maps.keyOf_str Try.underlying9 hk; exact ⟨x, hx⟩) (fun v y _ => ⟨v, rfl⟩) mb w.heap.size F.length _ _ _ rfl hrg ?_ ?_)
      | go_in)
    · intro _ hl0
      go_wp2
      go_ret
      exact ⟨by rw [met_all hl0]; rfl, hbw⟩
    · intro n c kl y1 y2 w1 cnt1 hkey hlk hc hat hrg1 hlt1 hg1 hs1 hen
      obtain ⟨x0, hx0, hkl, _⟩ := Maps.keyOf_str Try.underlying9 hkey
      obtain rfl : n = x0 := encStr_inj hx0
      subst hkl
      have hxf : ∃ x ∈ F, x.name = n ∧ c = .pointer (some ⟨x.g, 0, none⟩) := by
        have e1 := hat .nil
        have e2 := hat (.lit (.int .i64 (-1)))
        rw [atKey_ent_any] at e1 e2
        cases hf : fndK Fl.key n F with
        | none => rw [hf] at e1 e2; rw [← e2] at e1; cases e1
        | some x =>
          rw [hf] at e1
          obtain ⟨hm, hk⟩ := fndK_some hf
          have : ptrElem c = some (.lit (.int .i64 (x.g : Int)), y2) := by rw [hc, show (DataW.lit (.int .i64 (x.g : Int)) : DataW Unit) = y1 from e1]
          exact ⟨x, hm, hk, ptrElem_inv this⟩
      obtain ⟨x, hxm, rfl, rfl⟩ := hxf
      have hf := hfiles.out x hxm
      have hbw1 : Below w.heap.size w w1 := hbw.trans ⟨hg1.os, hg1.tape, hg1.output, hg1.size, fun k hk => hg1.block k (by have := hbw.size; omega) (fun e => by cases e; omega)⟩
      have c0 := (hf.blk.same (hbw1.block x.g hf.blk.lt)).cell 0
      simp at c0
      obtain ⟨ao, cap, hv⟩ := hf.slice
      rw [hv] at c0
      have hm1 := met_step hrise hxm hlk
      have hm2 := met_le (fun z => left z && !z.sameKey (.string x.name)) F
      have hm3 : ((met left F : Nat) : Int) + (x.data.length : Int) ≤ 10000000 := by omega
      have hm4 : ((met left F : Nat) : Int) + (x.data.length : Int) = (met (fun z => left z && !z.sameKey (.string x.name)) F : Nat) := by omega
      have HM := hid hm4
      have Hrg := hid hrg.left_eq
      clear hm1 hm2 hm4 hv hf hat hc hkey hx0 hlk hg1 hs1
      go_wp2
      go_roundw
      case rel => exact ⟨_, cnt1, hrg1, by rw [← HM.out], hbw1⟩
      case measure => rw [hrg1.left_eq, Hrg.out]; exact hlt1
end

end Go.Proofs.Ytcinegkikahchaa
