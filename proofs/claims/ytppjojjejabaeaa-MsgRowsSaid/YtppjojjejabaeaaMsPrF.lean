/-
  LAYER 7 (msg), THE PROGRAM: Voters, head.
-/
import Derived.Test.YtppjojjejabaeaaMsPrE
import Derived.Test.YtppjojjejabaeaaMsRefQ
namespace Go.Proofs.Ytppjojjejabaeaa
open Go.RowKit
set_option linter.unusedVariables false
set_option maxRecDepth 100000

/-! ### a block through the shapes of a world (one step each, for drawn regions) -/
theorem own.al {w : World} {b : Nat} {cs : Array Value} {T : TypeId} (o : Obj) (h : own w b cs T) : own (w.alloc o) b cs T := h.same (Below.heap_alloc _ _ _ h.lt)
theorem own.nw {w : World} {g : Nat} {cs : Array Value} {T : TypeId} (h : w.heap.size = g) : own (w.alloc (.cells cs T)) g cs T := by subst h; exact own.new w cs T
theorem own.dr {w : World} {b : Nat} {cs : Array Value} {T : TypeId} (h : own w b cs T) : own w.drew b cs T := h
theorem own.be {w w' : World} {b : Nat} {cs : Array Value} {T : TypeId} (hb : Below w.heap.size w w') (h : own w b cs T) : own w' b cs T := h.same (hb.block _ h.lt)
theorem intsAt_of {w : World} {v : Value} {xs : List Int} (h : RAt numTy w v xs) : IntsAt w w.heap.size v xs := by
  obtain ⟨a, cap, rfl, _, _, hc⟩ := h.at numTy_ok
  refine ⟨a, cap, rfl, fun hne => ?_⟩
  obtain ⟨x, hx⟩ : ∃ x, xs[0]? = some x := by
    cases xs with
    | nil => exact absurd rfl hne
    | cons y r => exact ⟨y, rfl⟩
  obtain ⟨sb, so, rfl, hlt, _⟩ := hc 0 x hx
  refine ⟨sb, so, rfl, hlt, fun j y hj => ?_⟩
  obtain ⟨sb', so', e, _, hcs⟩ := hc j y hj
  cases e
  have := hcs 0 _ rfl
  simpa [numTy] using this
/-- codec.Int of a row that lies there. -/
theorem pInt_any {w : World} {v : Value} {xs : List Int} (h : RAt numTy w v xs) (hx : ∀ n ∈ xs, i64b n) (hl : xs.length ≤ 1000000) : Calls Try.prog 37 #[v] w (StrPost w (encs xs)) :=
  int_any v xs w (intsAt_of h) hx (by omega)
theorem pInts_lit (xs : List Int) (wx : World) (g n : Nat) (hg : wx.heap.size = g) (hn : n = xs.length) (hx : ∀ n ∈ xs, i64b n) (hl : n ≤ 1000000) : Calls Try.prog 37 #[.slice (some ⟨g, 0, none⟩) n n] (wx.alloc (.cells (xs.map (Value.int .i64)).toArray 3)) fun e w' => e = .returned (.string (mk (encs xs))) ∧ Below wx.heap.size wx w' := by
  subst hg
  exact (pInt_any (nums_lit wx xs 3 n hn (by unfold maxLen; omega)) hx (by omega)).mono fun e w' h => ⟨h.1, ((Below.refl _ wx).alloc (Nat.le_refl _) _).trans (h.2.mono (by simp))⟩
/-- The same, behind a draw. -/
theorem pInts_drew (xs : List Int) (wx : World) (g n : Nat) (hg : wx.heap.size = g) (hn : n = xs.length) (hx : ∀ n ∈ xs, i64b n) (hl : n ≤ 1000000) : Calls Try.prog 37 #[.slice (some ⟨g, 0, none⟩) n n] ((wx.alloc (.cells (xs.map (Value.int .i64)).toArray 3)).drew) fun e w' => e = .returned (.string (mk (encs xs))) ∧ Below wx.heap.size wx w' := by
  subst hg
  have hr : RAt numTy ((wx.alloc (.cells (xs.map (Value.int .i64)).toArray 3)).drew) (.slice (some ⟨wx.heap.size, 0, none⟩) n n) xs := (nums_lit wx xs 3 n hn (by unfold maxLen; omega)).drewN 1
  have hb : Below wx.heap.size wx ((wx.alloc (.cells (xs.map (Value.int .i64)).toArray 3)).drew) := Below.drew ((Below.refl _ wx).alloc (Nat.le_refl _) _)
  exact (pInt_any hr hx (by omega)).mono fun e w' h => ⟨h.1, hb.trans (h.2.mono hb.size)⟩
theorem pInts_own (xs : List Int) (wy : World) (g n : Nat) (cs : Array Value) (ho : own wy g cs 3) (hc : cs.toList = xs.map (Value.int .i64)) (hn : n = xs.length) (hx : ∀ n ∈ xs, i64b n) (hl : n ≤ 1000000) : Calls Try.prog 37 #[.slice (some ⟨g, 0, none⟩) n n] wy (StrPost wy (encs xs)) :=
  pInt_any (rAt_own numTy_ok ho (by rw [hc, num_flat]) n hn (by unfold maxLen; omega)) hx (by omega)
/-- codec.Text of one text. -/
theorem pText_at (s : ByteArray) (wx wy : World) (hb : Below wx.heap.size wx wy) (hlt : wx.heap.size < wy.heap.size) (ho : own wy wx.heap.size #[.string s] 9) (hs : s.size ≤ 4000000) : Calls Try.prog 26 #[.slice (some ⟨wx.heap.size, 0, none⟩) 1 1] wy fun e w' => e = .returned (.string (mk (txt s.data.toList))) ∧ Below wx.heap.size wx w' := by
  have h := textS_any (.slice (some ⟨wx.heap.size, 0, none⟩) 1 1) [s] wy ⟨some ⟨wx.heap.size, 0, none⟩, 1, rfl, fun _ => ⟨_, _, rfl, hlt, fun j x hj => by
    match j, hj with
    | 0, hj => cases hj; exact (ho.cell 0).trans rfl
    | j + 1, hj => simp at hj⟩⟩ (fun k x hk => by
    match k, hk with
    | 0, hk => cases hk; simp [txts]; omega
    | k + 1, hk => simp at hk) (by simp)
  have e1 : txts [s] = txt s.data.toList := by simp [txts]
  rw [e1] at h
  exact h.mono fun e w' h => ⟨h.1, hb.trans (h.2.mono hb.size)⟩
theorem pText_any (s : ByteArray) (wx : World) (g : Nat) (hg : wx.heap.size = g) (hs : s.size ≤ 4000000) : Calls Try.prog 26 #[.slice (some ⟨g, 0, none⟩) 1 1] (wx.alloc (.cells #[.string s] 9)) fun e w' => e = .returned (.string (mk (txt s.data.toList))) ∧ Below wx.heap.size wx w' := by
  subst hg
  exact pText_at s wx _ ((Below.refl _ wx).alloc (Nat.le_refl _) _) (by simp) (own.new wx _ _) hs
theorem pText_drew (s : ByteArray) (wx : World) (g : Nat) (hg : wx.heap.size = g) (hs : s.size ≤ 4000000) : Calls Try.prog 26 #[.slice (some ⟨g, 0, none⟩) 1 1] ((wx.alloc (.cells #[.string s] 9)).drew) fun e w' => e = .returned (.string (mk (txt s.data.toList))) ∧ Below wx.heap.size wx w' := by
  subst hg
  exact pText_at s wx _ (Below.drew ((Below.refl _ wx).alloc (Nat.le_refl _) _)) (by show wx.heap.size < (wx.alloc (.cells #[.string s] 9)).heap.size; simp) (own.new wx _ _) hs
theorem pText_own (s : ByteArray) (wy : World) (g : Nat) (ho : own wy g #[.string s] 9) (hs : s.size ≤ 4000000) : Calls Try.prog 26 #[.slice (some ⟨g, 0, none⟩) 1 1] wy (StrPost wy (txt s.data.toList)) := by
  have h := textS_any (.slice (some ⟨g, 0, none⟩) 1 1) [s] wy ⟨some ⟨g, 0, none⟩, 1, rfl, fun _ => ⟨_, _, rfl, ho.lt, fun j x hj => by
    match j, hj with
    | 0, hj => cases hj; exact (ho.cell 0).trans rfl
    | j + 1, hj => simp at hj⟩⟩ (fun k x hk => by
    match k, hk with
    | 0, hk => cases hk; simp [txts]; omega
    | k + 1, hk => simp at hk) (by simp)
  have e1 : txts [s] = txt s.data.toList := by simp [txts]
  rw [e1] at h
  exact h
set_option maxHeartbeats 2000000 in
theorem voters_any {w : World} {v : Value} {xs : List Int} (hv : RAt numTy w v xs) (hx : ∀ x ∈ xs, i64b x) (hl : xs.length ≤ 1000000) : Calls Try.prog 15 #[v] w (StrPost w (eV xs)) := by
  obtain ⟨ao, cap, rfl, _⟩ := nums_at hv
  have H1 : Hid (∀ g, w.heap.size = g → Calls Try.prog 37 #[.slice (some ⟨g, 0, none⟩) 1 1] (w.alloc (.cells #[.int .i64 (xs.length : Int)] 3)) fun e w' => e = .returned (.string (mk (eI xs.length))) ∧ Below w.heap.size w w') := hid (fun g hg => by
    have := pInts_lit [(xs.length : Int)] w g 1 hg rfl (by intro n hn; simp at hn; subst hn; exact ⟨by omega, by omega⟩) (by omega)
    simpa [encs, eI] using this)
  have H2 : Hid (∀ wx, Below w.heap.size w wx → Calls Try.prog 37 #[.slice ao xs.length cap] wx fun e w' => e = .returned (.string (mk (encs xs))) ∧ Below w.heap.size w w') := hid (fun wx hb => (pInt_any (hv.below hb) hx hl).mono fun e w' h => ⟨h.1, hb.trans (h.2.mono hb.size)⟩)
  obtain ⟨s1, hs1⟩ : ∃ s, mk (eI (xs.length : Int)) = s := ⟨_, rfl⟩
  obtain ⟨s2, hs2⟩ : ∃ s, mk (encs xs) = s := ⟨_, rfl⟩
  have z1 : s1.size ≤ 10 := by rw [← hs1, mk_size]; exact eI_len ⟨by omega, by omega⟩
  have z2 : s2.size ≤ 10000000 := by
    rw [← hs2, mk_size]
    have := encs_len xs hx
    omega
  have q1 : ¬ 9223372036854775807 < s1.size + s2.size := by omega
  have HE : Hid (s1 ++ s2 = mk (eV xs)) := hid (by rw [← hs1, ← hs2, mk_append]; rfl)
  rw [hs1] at H1
  rw [hs2] at H2
  clear hs1 hs2 z1 z2 hv hx
  go_enter Try.func15, Try.ntmps15
  go_wp2_with (first
    | (go_at_call 37; (with_reducible refine (H1.out _ rfl).mono ?_); rintro e w1 ⟨rfl, hb1⟩)
    | (go_at_call 37; (with_reducible refine (H2.out _ hb1).mono ?_); rintro e w2 ⟨rfl, hb2⟩))
  go_ret
  exact ⟨by rw [← HE.out]; rfl, hb2⟩
end Go.Proofs.Ytppjojjejabaeaa
