import Derived.Test.YtjoeamlidmmioaaGreatDoorXmJeJ
import Derived.WalkMore
/-
  LAYER 11 (xml), THE PROGRAM: Read (written by tools/gen11_read.py).
-/
namespace Go.Proofs.YtjoeamlidmmioaaGreatDoor
open Go.RowKit
set_option linter.unusedVariables false
set_option maxRecDepth 100000

theorem str_nil {l : List UInt8} (h : l ≠ []) : (mk l).toList.isEmpty = false ∧ (!(mk l).toList.isEmpty) = true ∧ ((mk l).toList == []) = false := by
  rw [Lib.toList_data, mk_data]
  cases l with
  | nil => exact absurd rfl h
  | cons c r => exact ⟨rfl, rfl, rfl⟩
theorem str_isnil : (mk []).toList.isEmpty = true ∧ (!(mk []).toList.isEmpty) = false ∧ ((mk []).toList == []) = true := by
  rw [Lib.toList_data, mk_data]
  exact ⟨rfl, rfl, rfl⟩
/-- The loop's relation. -/
def RdRel (w W : World) (s : ByteArray) (wr : World) : Prop := ∃ s1 : RSt, RGo w.heap.size (fun x => x = w.heap.size) W wr w.heap.size s1 ∧ RdInv s.data.toList s1
set_option maxHeartbeats 40000000 in
theorem read_any {w : World} (hG : Gb w.heap.size w) (s : ByteArray) (hs : s.size ≤ 1000000000) : Calls Tryz.prog 14 #[.string s] w (RdPost2 w (readR s.data.toList)) := by
  by_cases h2 : 20000 < s.size
  · have HR : Hid (readR s.data.toList = ([], 10, 0)) := hid (if_pos (by rw [str_len]; exact h2))
    clear hG hs
    go_enter Tryz.func14, Tryz.ntmps14
    go_wp2
    go_step3
    go_wp2
    rw [Exit.noGoto_ret]
    go_ret3
    rw [HR.out]
    exact ⟨none, 0, rfl, ⟨[], rAt_nil _, tksIs_nil _⟩, Below.refl _ _⟩
  · have hle : s.size ≤ 20000 := by omega
    have h2' : ¬ (20000 : Int) < (s.size : Int) := by omega
    have hll : s.data.toList.length ≤ 20000 := by rw [str_len]; exact hle
    have hb0 : Below w.heap.size w (w.alloc (.cells #[.string s, .pointer none, .slice none 0 0, .slice none 0 0] 74)) := (Below.refl _ _).alloc (Nat.le_refl _) _
    have HB := hid (fun (w1 : World) (s1 : RSt) (k : RGo w.heap.size (fun x => x = w.heap.size) (w.alloc (.cells #[.string s, .pointer none, .slice none 0 0, .slice none 0 0] 74)) w1 w.heap.size s1) => hb0.trans (rGo_belowW k (fun x hx => by omega)))
    have HI : Hid (RdRel w (w.alloc (.cells #[.string s, .pointer none, .slice none 0 0, .slice none 0 0] 74)) s (w.alloc (.cells #[.string s, .pointer none, .slice none 0 0, .slice none 0 0] 74))) := hid ⟨_, rGo_made hG, rdInv_start hll⟩
    have hsl := hid (str_len s)
    have HLL := hid hll
    clear hG hs hb0 hll h2
    go_enter Tryz.func14, Tryz.ntmps14
    go_wp2
    go_step3
    go_wp2
    generalize (w.alloc (.cells #[.string s, .pointer none, .slice none 0 0, .slice none 0 0] 74)) = W at *
    go_step3
    go_wp2
    go_loopw [6] (fun _ wr => RdRel w W s wr) (fun _ wr => restSz wr w.heap.size)
    case atStart => exact HI.out
    case round =>
      obtain ⟨s1, hk, hinv⟩ := hrel
      clear HI
      have HV := hid hinv
      have k3 := hk
      have HMs := hid (restSz_rgo hk)
      obtain ⟨c0, f0⟩ := rGo_rest hk
      have HZ : Hid (((mk s1.rest).size : Int) = (s1.rest.length : Int)) := hid (by rw [mk_size])
      have hrs : (mk s1.rest).size ≤ s.size := by rw [mk_size, ← hsl.out]; exact hinv.len
      have hrl : s1.rest.length ≤ 20000 := by have := hinv.wl; omega
      have hwl : s1.words.length ≤ 80000 := by have := hinv.wl; omega
      have htl : s1.toks.length ≤ 60000 := by have := hinv.tl; omega
      clear hinv hk
      by_cases hr : s1.rest = []
      · have HE := hid (rdInv_end HV.out hr HLL.out)
        have HEw := hid (gEndWords k3 (by omega))
        obtain ⟨q1, q2, q3⟩ := str_isnil
        rw [hr] at c0 hrs
        clear hr
        as_aux_lemma =>
        go_wp2_with (go_at_call 32; (with_reducible refine HEw.out.mono ?_); rintro e w3 ⟨rfl, k4⟩; obtain ⟨a, n, c, d3, hn, HT⟩ := rGo_toks k4)
        rw [Exit.noGoto_ret]
        go_ret3
        rw [HE.out]
        have hn2 : n = (s1.toks ++ endW s1.words).length := hn.out
        subst hn2
        exact ⟨a, c, rfl, HT.out, HB.out _ _ k4⟩
      · obtain ⟨q1, q2, q3⟩ := str_nil hr
        have HBad : Hid (partX s1.rest = none → readR s.data.toList = ([], 8, (s.size : Int) - ((mk s1.rest).size : Int))) := hid (fun h => by rw [rdInv_bad HV.out hr h HLL.out, hsl.out, mk_size])
        have hpc := partX_cases s1.rest hr
        clear hr HZ
        rcases hpc with ⟨r, hy, hp⟩ | ⟨h0, r, hy, hp⟩ | ⟨h0, h1, r, hy, hp⟩ | ⟨h0, h1, h2, r, hy, hp⟩ | ⟨h0, h1, h2, h3, r, hy, hp⟩ | ⟨h0, h1, h2, h3, h4, r, hy, hp⟩ | ⟨h0, h1, h2, h3, h4, h5, r, hy, hp⟩ | ⟨h0, h1, h2, h3, h4, h5, h6, hy⟩
        · have HPy := hid (fun (w2 : World) (k : RGo w.heap.size (fun x => x = w.heap.size) W w2 w.heap.size s1) => gPast_yes k ⟨#[60, 33, 45, 45]⟩ hy)
          have hpl := (past_lt hy).2
          have hrr : r.length < s1.rest.length := by simp [sComment] at hpl; omega
          cases hu : upTo eComment r with
          | none =>
            have HN := hid (HBad.out (by rw [hp, hu]; rfl))
            have HU := hid (fun (w2 : World) (k : RGo w.heap.size (fun x => x = w.heap.size) W w2 w.heap.size { s1 with rest := r }) => gUpTo_no k (by show r.length ≤ _; omega) ⟨#[45, 45, 62]⟩ (by decide) hu)
            clear hu hp HBad HV  hy hpl
            as_aux_lemma =>
            go_wp2_with (first
              | (go_at_call 24; (with_reducible refine (HPy.out _ k3).mono ?_); rintro e w3 ⟨rfl, k3⟩)
              | (go_at_call 25; (with_reducible refine (HU.out _ k3).mono ?_); rintro e w3 ⟨rfl, k4⟩))
            rw [Exit.noGoto_ret]
            go_ret3
            rw [HN.out]
            exact ⟨none, 0, rfl, ⟨[], rAt_nil _, tksIs_nil _⟩, HB.out _ _ k4⟩
          | some xy =>
            obtain ⟨x, y⟩ := xy
            have hul := (upTo_lt hu).1
            have hpp : partX s1.rest = some (.txt [], y) := by rw [hp, hu]; rfl
            have HJ : Hid (RdInv s.data.toList ⟨y, s1.words, s1.toks⟩) := hid (by have := rdInv_txt HV.out hpp (by simp; omega); rw [List.append_nil] at this; exact this)
            have HLt : Hid (y.length < s1.rest.length) := hid (by omega)
            have HU := hid (fun (w2 : World) (k : RGo w.heap.size (fun x => x = w.heap.size) W w2 w.heap.size { s1 with rest := r }) => gUpTo_yes k (by show r.length ≤ _; omega) ⟨#[45, 45, 62]⟩ (by decide) hu)
            clear hu hp hpp hul HBad HV  hy hpl
            as_aux_lemma =>
            go_wp2_with (first
              | (go_at_call 24; (with_reducible refine (HPy.out _ k3).mono ?_); rintro e w3 ⟨rfl, k3⟩)
              | (go_at_call 25; (with_reducible refine (HU.out _ k3).mono ?_); rintro e w3 ⟨rfl, k4⟩))
            go_roundw
            case rel => exact ⟨_, k4, HJ.out⟩
            case measure => rw [restSz_rgo k4, HMs.out]; exact HLt.out
        · have HP0 := hid (fun (w2 : World) (k : RGo w.heap.size (fun x => x = w.heap.size) W w2 w.heap.size s1) => gPast_no k ⟨#[60, 33, 45, 45]⟩ h0)
          have HPy := hid (fun (w2 : World) (k : RGo w.heap.size (fun x => x = w.heap.size) W w2 w.heap.size s1) => gPast_yes k ⟨#[60, 63]⟩ hy)
          have hpl := (past_lt hy).2
          have hrr : r.length < s1.rest.length := by simp [sInstr] at hpl; omega
          cases hu : upTo eInstr r with
          | none =>
            have HN := hid (HBad.out (by rw [hp, hu]; rfl))
            have HU := hid (fun (w2 : World) (k : RGo w.heap.size (fun x => x = w.heap.size) W w2 w.heap.size { s1 with rest := r }) => gUpTo_no k (by show r.length ≤ _; omega) ⟨#[63, 62]⟩ (by decide) hu)
            clear hu hp HBad HV h0 hy hpl
            as_aux_lemma =>
            go_wp2_with (first
              | (go_at_call 24; (with_reducible refine (HP0.out _ k3).mono ?_); rintro e w3 ⟨rfl, k3⟩)
              | (go_at_call 24; (with_reducible refine (HPy.out _ k3).mono ?_); rintro e w3 ⟨rfl, k3⟩)
              | (go_at_call 25; (with_reducible refine (HU.out _ k3).mono ?_); rintro e w3 ⟨rfl, k4⟩))
            rw [Exit.noGoto_ret]
            go_ret3
            rw [HN.out]
            exact ⟨none, 0, rfl, ⟨[], rAt_nil _, tksIs_nil _⟩, HB.out _ _ k4⟩
          | some xy =>
            obtain ⟨x, y⟩ := xy
            have hul := (upTo_lt hu).1
            have hpp : partX s1.rest = some (.txt [], y) := by rw [hp, hu]; rfl
            have HJ : Hid (RdInv s.data.toList ⟨y, s1.words, s1.toks⟩) := hid (by have := rdInv_txt HV.out hpp (by simp; omega); rw [List.append_nil] at this; exact this)
            have HLt : Hid (y.length < s1.rest.length) := hid (by omega)
            have HU := hid (fun (w2 : World) (k : RGo w.heap.size (fun x => x = w.heap.size) W w2 w.heap.size { s1 with rest := r }) => gUpTo_yes k (by show r.length ≤ _; omega) ⟨#[63, 62]⟩ (by decide) hu)
            clear hu hp hpp hul HBad HV h0 hy hpl
            as_aux_lemma =>
            go_wp2_with (first
              | (go_at_call 24; (with_reducible refine (HP0.out _ k3).mono ?_); rintro e w3 ⟨rfl, k3⟩)
              | (go_at_call 24; (with_reducible refine (HPy.out _ k3).mono ?_); rintro e w3 ⟨rfl, k3⟩)
              | (go_at_call 25; (with_reducible refine (HU.out _ k3).mono ?_); rintro e w3 ⟨rfl, k4⟩))
            go_roundw
            case rel => exact ⟨_, k4, HJ.out⟩
            case measure => rw [restSz_rgo k4, HMs.out]; exact HLt.out
        · have HP0 := hid (fun (w2 : World) (k : RGo w.heap.size (fun x => x = w.heap.size) W w2 w.heap.size s1) => gPast_no k ⟨#[60, 33, 45, 45]⟩ h0)
          have HP1 := hid (fun (w2 : World) (k : RGo w.heap.size (fun x => x = w.heap.size) W w2 w.heap.size s1) => gPast_no k ⟨#[60, 63]⟩ h1)
          have HPy := hid (fun (w2 : World) (k : RGo w.heap.size (fun x => x = w.heap.size) W w2 w.heap.size s1) => gPast_yes k ⟨#[60, 33, 68, 79, 67, 84, 89, 80, 69]⟩ hy)
          have hpl := (past_lt hy).2
          have hrr : r.length < s1.rest.length := by simp [sDoc] at hpl; omega
          have HU := hid (fun (w2 : World) (k : RGo w.heap.size (fun x => x = w.heap.size) W w2 w.heap.size { s1 with rest := r }) => gDoctype k (by show r.length ≤ _; omega))
          cases hu : docX r with
          | none =>
            have HN := hid (HBad.out (by rw [hp, hu]; rfl))
            have HU2 : Hid (∀ w2, RGo w.heap.size (fun x => x = w.heap.size) W w2 w.heap.size { s1 with rest := r } → Calls Tryz.prog 26 #[.pointer (some ⟨w.heap.size, 0, none⟩)] w2 fun e w3 => e = .returned (.bool false) ∧ ∃ s2, RGo w.heap.size (fun x => x = w.heap.size) W w3 w.heap.size s2) := hid (fun w2 k => (HU.out w2 k).mono fun e w3 ⟨_, h⟩ => h hu)
            clear hu hp HU HBad HV h0 h1 hy hpl
            as_aux_lemma =>
            go_wp2_with (first
              | (go_at_call 24; (with_reducible refine (HP0.out _ k3).mono ?_); rintro e w3 ⟨rfl, k3⟩)
              | (go_at_call 24; (with_reducible refine (HP1.out _ k3).mono ?_); rintro e w3 ⟨rfl, k3⟩)
              | (go_at_call 24; (with_reducible refine (HPy.out _ k3).mono ?_); rintro e w3 ⟨rfl, k3⟩)
              | (go_at_call 26; (with_reducible refine (HU2.out _ k3).mono ?_); rintro e w3 ⟨rfl, s2, k4⟩))
            rw [Exit.noGoto_ret]
            go_ret3
            rw [HN.out]
            exact ⟨none, 0, rfl, ⟨[], rAt_nil _, tksIs_nil _⟩, HB.out _ _ k4⟩
          | some y =>
            have hpp : partX s1.rest = some (.txt [], y) := by rw [hp, hu]; rfl
            have hyl : y.length ≤ r.length := by
              unfold docX at hu
              obtain ⟨z, hz, hz2⟩ := Option.bind_eq_some_iff.1 hu
              have := (upTo_lt hz).1
              split at hz2
              · cases hz2
              · cases hz2; omega
            have HJ : Hid (RdInv s.data.toList ⟨y, s1.words, s1.toks⟩) := hid (by have := rdInv_txt HV.out hpp (by simp; omega); rw [List.append_nil] at this; exact this)
            have HLt : Hid (y.length < s1.rest.length) := hid (by omega)
            have HU2 : Hid (∀ w2, RGo w.heap.size (fun x => x = w.heap.size) W w2 w.heap.size { s1 with rest := r } → Calls Tryz.prog 26 #[.pointer (some ⟨w.heap.size, 0, none⟩)] w2 fun e w3 => e = .returned (.bool true) ∧ RGo w.heap.size (fun x => x = w.heap.size) W w3 w.heap.size ⟨y, s1.words, s1.toks⟩) := hid (fun w2 k => (HU.out w2 k).mono fun e w3 ⟨h, _⟩ => h y hu)
            clear hu hp hpp hyl HU HBad HV h0 h1 hy hpl
            as_aux_lemma =>
            go_wp2_with (first
              | (go_at_call 24; (with_reducible refine (HP0.out _ k3).mono ?_); rintro e w3 ⟨rfl, k3⟩)
              | (go_at_call 24; (with_reducible refine (HP1.out _ k3).mono ?_); rintro e w3 ⟨rfl, k3⟩)
              | (go_at_call 24; (with_reducible refine (HPy.out _ k3).mono ?_); rintro e w3 ⟨rfl, k3⟩)
              | (go_at_call 26; (with_reducible refine (HU2.out _ k3).mono ?_); rintro e w3 ⟨rfl, k4⟩))
            go_roundw
            case rel => exact ⟨_, k4, HJ.out⟩
            case measure => rw [restSz_rgo k4, HMs.out]; exact HLt.out
        · have HP0 := hid (fun (w2 : World) (k : RGo w.heap.size (fun x => x = w.heap.size) W w2 w.heap.size s1) => gPast_no k ⟨#[60, 33, 45, 45]⟩ h0)
          have HP1 := hid (fun (w2 : World) (k : RGo w.heap.size (fun x => x = w.heap.size) W w2 w.heap.size s1) => gPast_no k ⟨#[60, 63]⟩ h1)
          have HP2 := hid (fun (w2 : World) (k : RGo w.heap.size (fun x => x = w.heap.size) W w2 w.heap.size s1) => gPast_no k ⟨#[60, 33, 68, 79, 67, 84, 89, 80, 69]⟩ h2)
          have HPy := hid (fun (w2 : World) (k : RGo w.heap.size (fun x => x = w.heap.size) W w2 w.heap.size s1) => gPast_yes k ⟨#[60, 33, 91, 67, 68, 65, 84, 65, 91]⟩ hy)
          have hpl := (past_lt hy).2
          have hrr : r.length < s1.rest.length := by simp [sData] at hpl; omega
          cases hu : upTo eData r with
          | none =>
            have HN := hid (HBad.out (by rw [hp, hu]; rfl))
            have HU2 : Hid (∀ w2, RGo w.heap.size (fun x => x = w.heap.size) W w2 w.heap.size { s1 with rest := r } → Calls Tryz.prog 27 #[.pointer (some ⟨w.heap.size, 0, none⟩)] w2 fun e w3 => e = .returned (.bool false) ∧ ∃ s2, RGo w.heap.size (fun x => x = w.heap.size) W w3 w.heap.size s2) := hid (fun w2 k => gQuoted_no k (by show r.length ≤ _; omega) (by show s1.words.length ≤ _; omega) hu)
            clear hu hp HBad HV h0 h1 h2 hy hpl
            as_aux_lemma =>
            go_wp2_with (first
              | (go_at_call 24; (with_reducible refine (HP0.out _ k3).mono ?_); rintro e w3 ⟨rfl, k3⟩)
              | (go_at_call 24; (with_reducible refine (HP1.out _ k3).mono ?_); rintro e w3 ⟨rfl, k3⟩)
              | (go_at_call 24; (with_reducible refine (HP2.out _ k3).mono ?_); rintro e w3 ⟨rfl, k3⟩)
              | (go_at_call 24; (with_reducible refine (HPy.out _ k3).mono ?_); rintro e w3 ⟨rfl, k3⟩)
              | (go_at_call 27; (with_reducible refine (HU2.out _ k3).mono ?_); rintro e w3 ⟨rfl, s2, k4⟩))
            rw [Exit.noGoto_ret]
            go_ret3
            rw [HN.out]
            exact ⟨none, 0, rfl, ⟨[], rAt_nil _, tksIs_nil _⟩, HB.out _ _ k4⟩
          | some xy =>
            obtain ⟨x, y⟩ := xy
            have hul := (upTo_lt hu).1
            have hpp : partX s1.rest = some (.txt x, y) := by rw [hp, hu]; rfl
            have HJ : Hid (RdInv s.data.toList ⟨y, s1.words ++ x, s1.toks⟩) := hid (rdInv_txt HV.out hpp (by simp [eData] at hul; omega))
            have HLt : Hid (y.length < s1.rest.length) := hid (by simp [eData] at hul; omega)
            have HU2 : Hid (∀ w2, RGo w.heap.size (fun x => x = w.heap.size) W w2 w.heap.size { s1 with rest := r } → Calls Tryz.prog 27 #[.pointer (some ⟨w.heap.size, 0, none⟩)] w2 fun e w3 => e = .returned (.bool true) ∧ RGo w.heap.size (fun x => x = w.heap.size) W w3 w.heap.size ⟨y, s1.words ++ x, s1.toks⟩) := hid (fun w2 k => gQuoted_yes k (by show r.length ≤ _; omega) (by show s1.words.length ≤ _; omega) hu)
            clear hu hp hpp hul HBad HV h0 h1 h2 hy hpl
            as_aux_lemma =>
            go_wp2_with (first
              | (go_at_call 24; (with_reducible refine (HP0.out _ k3).mono ?_); rintro e w3 ⟨rfl, k3⟩)
              | (go_at_call 24; (with_reducible refine (HP1.out _ k3).mono ?_); rintro e w3 ⟨rfl, k3⟩)
              | (go_at_call 24; (with_reducible refine (HP2.out _ k3).mono ?_); rintro e w3 ⟨rfl, k3⟩)
              | (go_at_call 24; (with_reducible refine (HPy.out _ k3).mono ?_); rintro e w3 ⟨rfl, k3⟩)
              | (go_at_call 27; (with_reducible refine (HU2.out _ k3).mono ?_); rintro e w3 ⟨rfl, k4⟩))
            go_roundw
            case rel => exact ⟨_, k4, HJ.out⟩
            case measure => rw [restSz_rgo k4, HMs.out]; exact HLt.out
        · have HP0 := hid (fun (w2 : World) (k : RGo w.heap.size (fun x => x = w.heap.size) W w2 w.heap.size s1) => gPast_no k ⟨#[60, 33, 45, 45]⟩ h0)
          have HP1 := hid (fun (w2 : World) (k : RGo w.heap.size (fun x => x = w.heap.size) W w2 w.heap.size s1) => gPast_no k ⟨#[60, 63]⟩ h1)
          have HP2 := hid (fun (w2 : World) (k : RGo w.heap.size (fun x => x = w.heap.size) W w2 w.heap.size s1) => gPast_no k ⟨#[60, 33, 68, 79, 67, 84, 89, 80, 69]⟩ h2)
          have HP3 := hid (fun (w2 : World) (k : RGo w.heap.size (fun x => x = w.heap.size) W w2 w.heap.size s1) => gPast_no k ⟨#[60, 33, 91, 67, 68, 65, 84, 65, 91]⟩ h3)
          have HPy := hid (fun (w2 : World) (k : RGo w.heap.size (fun x => x = w.heap.size) W w2 w.heap.size s1) => gPast_yes k ⟨#[60, 47]⟩ hy)
          have hpl := (past_lt hy).2
          have hrr : r.length < s1.rest.length := by simp [sEnd] at hpl; omega
          cases hu : endX r with
          | none =>
            have HN := hid (HBad.out (by rw [hp, hu]; rfl))
            have HU2 : Hid (∀ w2, RGo w.heap.size (fun x => x = w.heap.size) W w2 w.heap.size { s1 with rest := r } → Calls Tryz.prog 28 #[.pointer (some ⟨w.heap.size, 0, none⟩)] w2 fun e w3 => e = .returned (.bool false) ∧ ∃ s2, RGo w.heap.size (fun x => x = w.heap.size) W w3 w.heap.size s2) := hid (fun w2 k => gClosing_no k (by show r.length ≤ _; omega) hu)
            clear hu hp HBad HV h0 h1 h2 h3 hy hpl
            as_aux_lemma =>
            go_wp2_with (first
              | (go_at_call 24; (with_reducible refine (HP0.out _ k3).mono ?_); rintro e w3 ⟨rfl, k3⟩)
              | (go_at_call 24; (with_reducible refine (HP1.out _ k3).mono ?_); rintro e w3 ⟨rfl, k3⟩)
              | (go_at_call 24; (with_reducible refine (HP2.out _ k3).mono ?_); rintro e w3 ⟨rfl, k3⟩)
              | (go_at_call 24; (with_reducible refine (HP3.out _ k3).mono ?_); rintro e w3 ⟨rfl, k3⟩)
              | (go_at_call 24; (with_reducible refine (HPy.out _ k3).mono ?_); rintro e w3 ⟨rfl, k3⟩)
              | (go_at_call 28; (with_reducible refine (HU2.out _ k3).mono ?_); rintro e w3 ⟨rfl, s2, k4⟩))
            rw [Exit.noGoto_ret]
            go_ret3
            rw [HN.out]
            exact ⟨none, 0, rfl, ⟨[], rAt_nil _, tksIs_nil _⟩, HB.out _ _ k4⟩
          | some xy =>
            obtain ⟨x, y⟩ := xy
            have hul := endX_lt hu
            have hx2 := endX_one hu
            have hpp : partX s1.rest = some (.tags x, y) := by rw [hp, hu]; rfl
            have HJ : Hid (RdInv s.data.toList ⟨y, [], s1.toks ++ endW s1.words ++ x⟩) := hid (rdInv_tags HV.out hpp hx2)
            have HLt : Hid (y.length < s1.rest.length) := hid (by omega)
            have HU2 : Hid (∀ w2, RGo w.heap.size (fun x => x = w.heap.size) W w2 w.heap.size { s1 with rest := r } → Calls Tryz.prog 28 #[.pointer (some ⟨w.heap.size, 0, none⟩)] w2 fun e w3 => e = .returned (.bool true) ∧ RGo w.heap.size (fun x => x = w.heap.size) W w3 w.heap.size ⟨y, [], s1.toks ++ endW s1.words ++ x⟩) := hid (fun w2 k => gClosing_yes k (by show r.length ≤ _; omega) (by show s1.toks.length ≤ _; omega) hu)
            clear hu hp hpp hul HBad HV h0 h1 h2 h3 hy hpl hx2
            as_aux_lemma =>
            go_wp2_with (first
              | (go_at_call 24; (with_reducible refine (HP0.out _ k3).mono ?_); rintro e w3 ⟨rfl, k3⟩)
              | (go_at_call 24; (with_reducible refine (HP1.out _ k3).mono ?_); rintro e w3 ⟨rfl, k3⟩)
              | (go_at_call 24; (with_reducible refine (HP2.out _ k3).mono ?_); rintro e w3 ⟨rfl, k3⟩)
              | (go_at_call 24; (with_reducible refine (HP3.out _ k3).mono ?_); rintro e w3 ⟨rfl, k3⟩)
              | (go_at_call 24; (with_reducible refine (HPy.out _ k3).mono ?_); rintro e w3 ⟨rfl, k3⟩)
              | (go_at_call 28; (with_reducible refine (HU2.out _ k3).mono ?_); rintro e w3 ⟨rfl, k4⟩))
            go_roundw
            case rel => exact ⟨_, k4, HJ.out⟩
            case measure => rw [restSz_rgo k4, HMs.out]; exact HLt.out
        · have HP0 := hid (fun (w2 : World) (k : RGo w.heap.size (fun x => x = w.heap.size) W w2 w.heap.size s1) => gPast_no k ⟨#[60, 33, 45, 45]⟩ h0)
          have HP1 := hid (fun (w2 : World) (k : RGo w.heap.size (fun x => x = w.heap.size) W w2 w.heap.size s1) => gPast_no k ⟨#[60, 63]⟩ h1)
          have HP2 := hid (fun (w2 : World) (k : RGo w.heap.size (fun x => x = w.heap.size) W w2 w.heap.size s1) => gPast_no k ⟨#[60, 33, 68, 79, 67, 84, 89, 80, 69]⟩ h2)
          have HP3 := hid (fun (w2 : World) (k : RGo w.heap.size (fun x => x = w.heap.size) W w2 w.heap.size s1) => gPast_no k ⟨#[60, 33, 91, 67, 68, 65, 84, 65, 91]⟩ h3)
          have HP4 := hid (fun (w2 : World) (k : RGo w.heap.size (fun x => x = w.heap.size) W w2 w.heap.size s1) => gPast_no k ⟨#[60, 47]⟩ h4)
          have HPy := hid (fun (w2 : World) (k : RGo w.heap.size (fun x => x = w.heap.size) W w2 w.heap.size s1) => gPast_yes k ⟨#[60]⟩ hy)
          have hpl := (past_lt hy).2
          have hrr : r.length < s1.rest.length := by simp [] at hpl; omega
          have HU := hid (fun (w2 : World) (k : RGo w.heap.size (fun x => x = w.heap.size) W w2 w.heap.size { s1 with rest := r }) => gOpening k (by show r.length ≤ _; omega) (by show s1.toks.length ≤ _; omega))
          cases hu : tagX r with
          | none =>
            have HN := hid (HBad.out (by rw [hp, hu]; rfl))
            have HU2 : Hid (∀ w2, RGo w.heap.size (fun x => x = w.heap.size) W w2 w.heap.size { s1 with rest := r } → Calls Tryz.prog 29 #[.pointer (some ⟨w.heap.size, 0, none⟩)] w2 fun e w3 => e = .returned (.bool false) ∧ ∃ s2, RGo w.heap.size (fun x => x = w.heap.size) W w3 w.heap.size s2) := hid (fun w2 k => (HU.out w2 k).mono fun e w3 ⟨_, h⟩ => h hu)
            clear hu hp HU HBad HV h0 h1 h2 h3 h4 hy hpl
            as_aux_lemma =>
            go_wp2_with (first
              | (go_at_call 24; (with_reducible refine (HP0.out _ k3).mono ?_); rintro e w3 ⟨rfl, k3⟩)
              | (go_at_call 24; (with_reducible refine (HP1.out _ k3).mono ?_); rintro e w3 ⟨rfl, k3⟩)
              | (go_at_call 24; (with_reducible refine (HP2.out _ k3).mono ?_); rintro e w3 ⟨rfl, k3⟩)
              | (go_at_call 24; (with_reducible refine (HP3.out _ k3).mono ?_); rintro e w3 ⟨rfl, k3⟩)
              | (go_at_call 24; (with_reducible refine (HP4.out _ k3).mono ?_); rintro e w3 ⟨rfl, k3⟩)
              | (go_at_call 24; (with_reducible refine (HPy.out _ k3).mono ?_); rintro e w3 ⟨rfl, k3⟩)
              | (go_at_call 29; (with_reducible refine (HU2.out _ k3).mono ?_); rintro e w3 ⟨rfl, s2, k4⟩))
            rw [Exit.noGoto_ret]
            go_ret3
            rw [HN.out]
            exact ⟨none, 0, rfl, ⟨[], rAt_nil _, tksIs_nil _⟩, HB.out _ _ k4⟩
          | some xy =>
            obtain ⟨x, y⟩ := xy
            have hul := tagX_lt hu
            have hx2 := tagX_two hu
            have hpp : partX s1.rest = some (.tags x, y) := by rw [hp, hu]; rfl
            have HJ : Hid (RdInv s.data.toList ⟨y, [], s1.toks ++ endW s1.words ++ x⟩) := hid (rdInv_tags HV.out hpp hx2)
            have HLt : Hid (y.length < s1.rest.length) := hid (by omega)
            have HU2 : Hid (∀ w2, RGo w.heap.size (fun x => x = w.heap.size) W w2 w.heap.size { s1 with rest := r } → Calls Tryz.prog 29 #[.pointer (some ⟨w.heap.size, 0, none⟩)] w2 fun e w3 => e = .returned (.bool true) ∧ RGo w.heap.size (fun x => x = w.heap.size) W w3 w.heap.size ⟨y, [], s1.toks ++ endW s1.words ++ x⟩) := hid (fun w2 k => (HU.out w2 k).mono fun e w3 ⟨h, _⟩ => h (x, y) hu)
            clear hu hp hpp hul hx2 HU HBad HV h0 h1 h2 h3 h4 hy hpl
            as_aux_lemma =>
            go_wp2_with (first
              | (go_at_call 24; (with_reducible refine (HP0.out _ k3).mono ?_); rintro e w3 ⟨rfl, k3⟩)
              | (go_at_call 24; (with_reducible refine (HP1.out _ k3).mono ?_); rintro e w3 ⟨rfl, k3⟩)
              | (go_at_call 24; (with_reducible refine (HP2.out _ k3).mono ?_); rintro e w3 ⟨rfl, k3⟩)
              | (go_at_call 24; (with_reducible refine (HP3.out _ k3).mono ?_); rintro e w3 ⟨rfl, k3⟩)
              | (go_at_call 24; (with_reducible refine (HP4.out _ k3).mono ?_); rintro e w3 ⟨rfl, k3⟩)
              | (go_at_call 24; (with_reducible refine (HPy.out _ k3).mono ?_); rintro e w3 ⟨rfl, k3⟩)
              | (go_at_call 29; (with_reducible refine (HU2.out _ k3).mono ?_); rintro e w3 ⟨rfl, k4⟩))
            go_roundw
            case rel => exact ⟨_, k4, HJ.out⟩
            case measure => rw [restSz_rgo k4, HMs.out]; exact HLt.out
        · have HP0 := hid (fun (w2 : World) (k : RGo w.heap.size (fun x => x = w.heap.size) W w2 w.heap.size s1) => gPast_no k ⟨#[60, 33, 45, 45]⟩ h0)
          have HP1 := hid (fun (w2 : World) (k : RGo w.heap.size (fun x => x = w.heap.size) W w2 w.heap.size s1) => gPast_no k ⟨#[60, 63]⟩ h1)
          have HP2 := hid (fun (w2 : World) (k : RGo w.heap.size (fun x => x = w.heap.size) W w2 w.heap.size s1) => gPast_no k ⟨#[60, 33, 68, 79, 67, 84, 89, 80, 69]⟩ h2)
          have HP3 := hid (fun (w2 : World) (k : RGo w.heap.size (fun x => x = w.heap.size) W w2 w.heap.size s1) => gPast_no k ⟨#[60, 33, 91, 67, 68, 65, 84, 65, 91]⟩ h3)
          have HP4 := hid (fun (w2 : World) (k : RGo w.heap.size (fun x => x = w.heap.size) W w2 w.heap.size s1) => gPast_no k ⟨#[60, 47]⟩ h4)
          have HP5 := hid (fun (w2 : World) (k : RGo w.heap.size (fun x => x = w.heap.size) W w2 w.heap.size s1) => gPast_no k ⟨#[60]⟩ h5)
          have HPy := hid (fun (w2 : World) (k : RGo w.heap.size (fun x => x = w.heap.size) W w2 w.heap.size s1) => gPast_yes k ⟨#[38]⟩ hy)
          have hpl := (past_lt hy).2
          have hrr : r.length < s1.rest.length := by simp [] at hpl; omega
          cases hu : refX r with
          | none =>
            have HN := hid (HBad.out (by rw [hp, hu]; rfl))
            have HU2 : Hid (∀ w2, RGo w.heap.size (fun x => x = w.heap.size) W w2 w.heap.size { s1 with rest := r } → Calls Tryz.prog 30 #[.pointer (some ⟨w.heap.size, 0, none⟩)] w2 fun e w3 => e = .returned (.bool false) ∧ ∃ s2, RGo w.heap.size (fun x => x = w.heap.size) W w3 w.heap.size s2) := hid (fun w2 k => gRef_no k (by show r.length ≤ _; omega) (by show s1.words.length ≤ _; omega) hu)
            clear hu hp HBad HV h0 h1 h2 h3 h4 h5 hy hpl
            as_aux_lemma =>
            go_wp2_with (first
              | (go_at_call 24; (with_reducible refine (HP0.out _ k3).mono ?_); rintro e w3 ⟨rfl, k3⟩)
              | (go_at_call 24; (with_reducible refine (HP1.out _ k3).mono ?_); rintro e w3 ⟨rfl, k3⟩)
              | (go_at_call 24; (with_reducible refine (HP2.out _ k3).mono ?_); rintro e w3 ⟨rfl, k3⟩)
              | (go_at_call 24; (with_reducible refine (HP3.out _ k3).mono ?_); rintro e w3 ⟨rfl, k3⟩)
              | (go_at_call 24; (with_reducible refine (HP4.out _ k3).mono ?_); rintro e w3 ⟨rfl, k3⟩)
              | (go_at_call 24; (with_reducible refine (HP5.out _ k3).mono ?_); rintro e w3 ⟨rfl, k3⟩)
              | (go_at_call 24; (with_reducible refine (HPy.out _ k3).mono ?_); rintro e w3 ⟨rfl, k3⟩)
              | (go_at_call 30; (with_reducible refine (HU2.out _ k3).mono ?_); rintro e w3 ⟨rfl, s2, k4⟩))
            rw [Exit.noGoto_ret]
            go_ret3
            rw [HN.out]
            exact ⟨none, 0, rfl, ⟨[], rAt_nil _, tksIs_nil _⟩, HB.out _ _ k4⟩
          | some xy =>
            obtain ⟨x, y⟩ := xy
            have hul := refX_lt hu
            have hx2 := refX_len hu
            have hpp : partX s1.rest = some (.txt x, y) := by rw [hp, hu]; rfl
            have HJ : Hid (RdInv s.data.toList ⟨y, s1.words ++ x, s1.toks⟩) := hid (rdInv_txt HV.out hpp (by omega))
            have HLt : Hid (y.length < s1.rest.length) := hid (by omega)
            have HU2 : Hid (∀ w2, RGo w.heap.size (fun x => x = w.heap.size) W w2 w.heap.size { s1 with rest := r } → Calls Tryz.prog 30 #[.pointer (some ⟨w.heap.size, 0, none⟩)] w2 fun e w3 => e = .returned (.bool true) ∧ RGo w.heap.size (fun x => x = w.heap.size) W w3 w.heap.size ⟨y, s1.words ++ x, s1.toks⟩) := hid (fun w2 k => gRef_yes k (by show r.length ≤ _; omega) (by show s1.words.length ≤ _; omega) hu)
            clear hu hp hpp hul HBad HV h0 h1 h2 h3 h4 h5 hy hpl hx2
            as_aux_lemma =>
            go_wp2_with (first
              | (go_at_call 24; (with_reducible refine (HP0.out _ k3).mono ?_); rintro e w3 ⟨rfl, k3⟩)
              | (go_at_call 24; (with_reducible refine (HP1.out _ k3).mono ?_); rintro e w3 ⟨rfl, k3⟩)
              | (go_at_call 24; (with_reducible refine (HP2.out _ k3).mono ?_); rintro e w3 ⟨rfl, k3⟩)
              | (go_at_call 24; (with_reducible refine (HP3.out _ k3).mono ?_); rintro e w3 ⟨rfl, k3⟩)
              | (go_at_call 24; (with_reducible refine (HP4.out _ k3).mono ?_); rintro e w3 ⟨rfl, k3⟩)
              | (go_at_call 24; (with_reducible refine (HP5.out _ k3).mono ?_); rintro e w3 ⟨rfl, k3⟩)
              | (go_at_call 24; (with_reducible refine (HPy.out _ k3).mono ?_); rintro e w3 ⟨rfl, k3⟩)
              | (go_at_call 30; (with_reducible refine (HU2.out _ k3).mono ?_); rintro e w3 ⟨rfl, k4⟩))
            go_roundw
            case rel => exact ⟨_, k4, HJ.out⟩
            case measure => rw [restSz_rgo k4, HMs.out]; exact HLt.out
        · have HP0 := hid (fun (w2 : World) (k : RGo w.heap.size (fun x => x = w.heap.size) W w2 w.heap.size s1) => gPast_no k ⟨#[60, 33, 45, 45]⟩ h0)
          have HP1 := hid (fun (w2 : World) (k : RGo w.heap.size (fun x => x = w.heap.size) W w2 w.heap.size s1) => gPast_no k ⟨#[60, 63]⟩ h1)
          have HP2 := hid (fun (w2 : World) (k : RGo w.heap.size (fun x => x = w.heap.size) W w2 w.heap.size s1) => gPast_no k ⟨#[60, 33, 68, 79, 67, 84, 89, 80, 69]⟩ h2)
          have HP3 := hid (fun (w2 : World) (k : RGo w.heap.size (fun x => x = w.heap.size) W w2 w.heap.size s1) => gPast_no k ⟨#[60, 33, 91, 67, 68, 65, 84, 65, 91]⟩ h3)
          have HP4 := hid (fun (w2 : World) (k : RGo w.heap.size (fun x => x = w.heap.size) W w2 w.heap.size s1) => gPast_no k ⟨#[60, 47]⟩ h4)
          have HP5 := hid (fun (w2 : World) (k : RGo w.heap.size (fun x => x = w.heap.size) W w2 w.heap.size s1) => gPast_no k ⟨#[60]⟩ h5)
          have HP6 := hid (fun (w2 : World) (k : RGo w.heap.size (fun x => x = w.heap.size) W w2 w.heap.size s1) => gPast_no k ⟨#[38]⟩ h6)
          have HJ : Hid (RdInv s.data.toList ⟨s1.rest.dropWhile plnX, s1.words ++ s1.rest.takeWhile plnX, s1.toks⟩) := hid (rdInv_plain HV.out)
          have HLt : Hid ((s1.rest.dropWhile plnX).length < s1.rest.length) := hid (by exact hy)
          have HU := hid (fun (w2 : World) (k : RGo w.heap.size (fun x => x = w.heap.size) W w2 w.heap.size s1) => gPlain k (by omega) (by omega))
          clear hy HBad HV h0 h1 h2 h3 h4 h5 h6
          as_aux_lemma =>
          go_wp2_with (first
            | (go_at_call 24; (with_reducible refine (HP0.out _ k3).mono ?_); rintro e w3 ⟨rfl, k3⟩)
            | (go_at_call 24; (with_reducible refine (HP1.out _ k3).mono ?_); rintro e w3 ⟨rfl, k3⟩)
            | (go_at_call 24; (with_reducible refine (HP2.out _ k3).mono ?_); rintro e w3 ⟨rfl, k3⟩)
            | (go_at_call 24; (with_reducible refine (HP3.out _ k3).mono ?_); rintro e w3 ⟨rfl, k3⟩)
            | (go_at_call 24; (with_reducible refine (HP4.out _ k3).mono ?_); rintro e w3 ⟨rfl, k3⟩)
            | (go_at_call 24; (with_reducible refine (HP5.out _ k3).mono ?_); rintro e w3 ⟨rfl, k3⟩)
            | (go_at_call 24; (with_reducible refine (HP6.out _ k3).mono ?_); rintro e w3 ⟨rfl, k3⟩)
            | (go_at_call 31; (with_reducible refine (HU.out _ k3).mono ?_); rintro e w3 ⟨rfl, k4⟩))
          go_roundw
          case rel => exact ⟨_, k4, HJ.out⟩
          case measure => rw [restSz_rgo k4, HMs.out]; exact HLt.out
end Go.Proofs.YtjoeamlidmmioaaGreatDoor

