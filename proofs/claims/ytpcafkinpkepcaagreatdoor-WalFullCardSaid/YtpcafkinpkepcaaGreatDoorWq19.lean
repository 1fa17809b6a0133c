import Derived.Test.YtpcafkinpkepcaaGreatDoorWq18
/-
  Wq19: DkF, in one text.
-/
/-
  LAYER 2 (disk): Sync, Truncate, Rename, Delete, Fuse.
-/
namespace Go.Proofs.YtpcafkinpkepcaaGreatDoor
open Go.RowKit Go.Maps
set_option linter.unusedVariables false
set_option maxRecDepth 100000

section
variable {w w' : World} {S : Nat → Prop} {a mb : Nat} {F : List Fl} {s : Dk}

/-- What 'find' says where the call fails there. -/
theorem need_fail (h : DiskRep w S a mb F s) (n : ByteArray) (hx : s.dead = true ∨ fndK Fl.key n.data.toList F = none) :
    ∃ k : Int, (k = 7 ∨ k = 4) ∧ FindV s F n.data.toList = .tuple #[.pointer none, .int .i64 k] ∧ ∀ K, need s n.data.toList K = (s, k) := by
  cases hd : s.dead with
  | true => exact ⟨7, .inl rfl, by unfold FindV; rw [hd]; rfl, fun K => by unfold need; rw [if_pos hd]⟩
  | false =>
    have hx' : fndK Fl.key n.data.toList F = none := by
      rcases hx with hx | hx
      · rw [hd] at hx; cases hx
      · exact hx
    have hA : fndK AF.key n.data.toList s.L = none := by rw [h.fnd, hx']; rfl
    exact ⟨4, .inr rfl, by unfold FindV; rw [hd, hx']; rfl, fun K => by unfold need; rw [hd, hA]; rfl⟩
theorem need_ok (h : DiskRep w S a mb F s) {n : ByteArray} {x : Fl} (hd : s.dead = false) (hx : fndK Fl.key n.data.toList F = some x) :
    FindV s F n.data.toList = .tuple #[.pointer (some ⟨x.g, 0, none⟩), .int .i64 0] ∧ ∀ K, need s n.data.toList K = K x.abs := by
  have hA : fndK AF.key n.data.toList s.L = some x.abs := by rw [h.fnd, hx]; rfl
  exact ⟨by unfold FindV; rw [hd, hx]; rfl, fun K => by unfold need; rw [hd, hA]; rfl⟩
theorem find_is (w : World) (h : DiskRep w S a mb F s) (n : ByteArray) (hn : n.size ≤ maxLen) (v : Value) (hv : FindV s F n.data.toList = v) :
    Calls Tryz.prog 131 #[.pointer (some ⟨a, 0, none⟩), .string n] w fun e w' => e = .returned v ∧ w = w' := by
  subst hv; exact find_any h n hn
/-- What 'spend' leaves where the power goes. -/
theorem spend_dead (h : DiskRep w S a mb F s) (hfu : s.fuse = 0) :
    Calls Tryz.prog 71 #[.pointer (some ⟨a, 0, none⟩)] w fun e w2 => e = .returned (.int .i64 7) ∧ OpPost w S a ({ s with dead := true }, 7) (.returned (.int .i64 7)) w2 := by
  refine (spend_hid w h 7 (if_pos hfu) _ (if_pos hfu)).mono ?_
  rintro e w2 ⟨rfl, hD, hc, hz⟩
  have hc' : Chg S w w2 := hc.mono (fun b e => by rw [e]; exact h.inA)
  exact ⟨rfl, rfl, ⟨mb, F, hD.widen grow_mono (grow_lt h.lt hc'.size)⟩, hc'⟩
theorem spends_dead (hfu : s.fuse = 0) (k : Dk → Dk) : spends s k = ({ s with dead := true }, 7) := by
  rw [spends_eq, if_pos hfu]; unfold spendTo; rw [if_pos hfu]
theorem spends_ok (hfu : s.fuse ≠ 0) (k : Dk → Dk) : spends s k = (k (ticked s), 0) := by
  rw [spends_eq, if_neg hfu]

/-- A file's two cells are written, its row stays. -/
theorem cells_tail {w2 : World} (h : DiskRep w2 S a mb F s) {n : List UInt8} {x : Fl} (hx : fndK Fl.key n F = some x) (H : AF → AF) (hHn : ∀ f, (H f).name = f.name) {ao : Option Addr} {cap k : Nat} {m : Nat}
    (hv : x.v = .slice ao x.data.length cap) (hk : k ≤ x.data.length) (hH : H x.abs = ⟨x.name, x.data.take k, m⟩) (hok : ({ s with L := updK AF.key n H s.L } : Dk).Ok) (w3 : World)
    (hw3 : own w3 x.g #[.slice ao k cap, .int .i64 (m : Int)] 123) (hc : Chg (fun b => b = x.g) w2 w3) :
    DiskIs w3 (grow S w2 w3) a { s with L := updK AF.key n H s.L } ∧ Chg S w2 w3 := by
  obtain ⟨hxm, hxn⟩ := fndK_some hx
  have hf := h.files x hxm
  have hxg : S x.g := h.inS _ (by simp only [List.mem_cons, List.mem_flatMap]; exact .inr (.inr ⟨x, hxm, by simp [Fl.foot]⟩))
  have hob : (Value.slice ao k cap).ownBlock = x.v.ownBlock := by rw [hv]; cases ao <;> rfl
  have hrow : Bytes w3 0 (.slice ao k cap) (x.data.take k) := by
    have h1 := hf.row
    have hlen : (x.data.take k).length = k := by rw [List.length_take]; omega
    unfold Bytes at h1 ⊢
    refine ⟨by simp [Lib.byteCells], ?_⟩
    rw [hlen]
    rcases h1.2 with ⟨h2, h0⟩ | ⟨g, cap', cur, h2, hB, hg, hnc, hcm, hcs, htake⟩
    · rw [hv] at h2
      simp at h2
      obtain ⟨rfl, _, rfl⟩ := h2
      exact .inl ⟨by rw [show k = 0 by omega], by omega⟩
    · rw [hv] at h2
      simp at h2
      obtain ⟨rfl, rfl⟩ := h2
      refine .inr ⟨g, cap, cur, rfl, hB, ?_, by omega, hcm, hcs, ?_⟩
      · rw [hc.block g (Array.getElem?_eq_some_iff.1 hg).1 (fun e => ?_)]
        · exact hg
        · have := hf.apart
          rw [hv, ← e] at this
          exact this rfl
      · have h3 := congrArg (List.take (k * 1)) htake
        rw [List.take_take, Nat.min_eq_left (by omega)] at h3
        rw [h3]
        simp [Lib.byteCells, List.map_take]
  have hset := h.set (w' := w3) (x' := { x with v := .slice ao k cap, data := x.data.take k, synced := m }) hx rfl rfl (H := H) hH.symm hHn ⟨hw3, hrow, by rw [hob]; exact hf.apart⟩ (hc.mono (fun b e => by rw [e]; simp [Fl.foot])) (fun b hb => .inl ?_) hok
  · obtain ⟨F', h1, _⟩ := hset
    exact ⟨⟨mb, F', h1⟩, hc.mono (fun b e => by rw [e]; exact hxg)⟩
  · simp only [Fl.foot, List.mem_cons, Option.mem_toList] at hb ⊢
    rw [hob] at hb
    exact hb

set_option maxHeartbeats 1000000 in
theorem sync_fail (h : DiskRep w S a mb F s) (n : ByteArray) (hn : n.size ≤ maxLen) (hx : s.dead = true ∨ fndK Fl.key n.data.toList F = none) :
    Calls Tryz.prog 133 #[.pointer (some ⟨a, 0, none⟩), .string n] w (OpPost w S a (syn s n.data.toList)) := by
  obtain ⟨k, hk, hv, hneed⟩ := need_fail h n hx
  have hr : syn s n.data.toList = (s, k) := hneed _
  rw [hr]
  have HF := hid (show OpPost w S a (s, k) (.returned (.int .i64 k)) w from OpPost.none h (Below.refl _ _) rfl rfl)
  have HI := hid (find_is w h n hn _ hv)
  clear hr hneed hv h hx
  rcases hk with rfl | rfl
  all_goals
    go_enter Tryz.func133, Tryz.ntmps133
    go_wp2_with (go_at_call 131; (with_reducible refine HI.out.mono ?_); rintro e w1 ⟨rfl, rfl⟩)
    go_ret
    exact HF.out

set_option maxHeartbeats 1000000 in
theorem sync_dead (h : DiskRep w S a mb F s) (n : ByteArray) (hn : n.size ≤ maxLen) (hd : s.dead = false) {x : Fl} (hx : fndK Fl.key n.data.toList F = some x) (hfu : s.fuse = 0) :
    Calls Tryz.prog 133 #[.pointer (some ⟨a, 0, none⟩), .string n] w (OpPost w S a ({ s with dead := true }, 7)) := by
  have HI := hid (find_is w h n hn _ (need_ok h hd hx).1)
  have HS := hid (spend_dead h hfu)
  clear h hd hx hfu
  generalize ({ s with dead := true } : Dk) = sd at *
  go_enter Tryz.func133, Tryz.ntmps133
  go_wp2_with (first
    | (go_at_call 131; (with_reducible refine HI.out.mono ?_); rintro e w1 ⟨rfl, rfl⟩)
    | (go_at_call 71; (with_reducible refine HS.out.mono ?_); rintro e w2 ⟨rfl, hP⟩; have HP := hid hP; clear hP))
  go_ret
  exact HP.out

def SyncTail (w : World) (S : Nat → Prop) (a : Nat) (r : Dk × Int) (x : Fl) (e : Ending) (w2 : World) : Prop :=
  e = .returned (.int .i64 0) ∧ ∃ ao cap, w2.cell? ⟨x.g, 0, none⟩ = some (.slice ao x.data.length cap) ∧ w2.cell? ⟨x.g, 1, none⟩ = some (.int .i64 x.synced) ∧ w2.frozen? ⟨x.g, 1, none⟩ = false ∧ Hid (OpPost w S a r (.returned (.int .i64 0)) (w2.setCell ⟨x.g, 1, none⟩ (.int .i64 x.data.length)))
set_option maxHeartbeats 1000000 in
theorem sync_ok (h : DiskRep w S a mb F s) (n : ByteArray) (hn : n.size ≤ maxLen) (hd : s.dead = false) {x : Fl} (hx : fndK Fl.key n.data.toList F = some x) (hfu : s.fuse ≠ 0) :
    Calls Tryz.prog 133 #[.pointer (some ⟨a, 0, none⟩), .string n] w (OpPost w S a ({ ticked s with L := updK AF.key n.data.toList syncF s.L }, 0)) := by
  have HI := hid (find_is w h n hn _ (need_ok h hd hx).1)
  have hsp : Calls Tryz.prog 71 #[.pointer (some ⟨a, 0, none⟩)] w (SyncTail w S a ({ ticked s with L := updK AF.key n.data.toList syncF s.L }, 0) x) := by
    refine (spend_hid w h 0 (if_neg hfu) _ (if_neg hfu)).mono ?_
    rintro e w2 ⟨rfl, hD, hc, hz⟩
    have hf := hD.files x (fndK_some hx).1
    obtain ⟨ao, cap, hv⟩ := hf.slice
    have hb := hf.blk
    rw [hv] at hb
    have hc' : Chg S w w2 := hc.mono (fun b e => by rw [e]; exact h.inA)
    have hset := hb.set 1 (.int .i64 x.data.length)
    have ht := cells_tail hD hx syncF (fun _ => rfl) hv (Nat.le_refl _) (m := x.data.length) (by simp [syncF, Fl.abs]) (Ok_upd hD.ok 0 (fun _ => rfl) (fun f hf => Nat.le_refl _) (fun f => Nat.le_refl _) (by have := hD.ok.room; omega)) _ (by simpa using hset) (Chg.setCell w2 ⟨x.g, 1, none⟩ _)
    obtain ⟨⟨mb', F', h1⟩, h2⟩ := ht
    exact ⟨rfl, ao, cap, by rw [hb.cell 0]; rfl, by rw [hb.cell 1]; rfl, hb.frozen 1, rfl, ⟨mb', F', h1.after (fun b hb => .inl hb) h.lt hc'.size h2.size⟩, hc'.trans h2 (fun b hb => .inl hb)⟩
  have HS := hid hsp
  have hlen : x.data.length ≤ 10000000 := by
    have : x.abs ∈ s.L := by rw [h.abs]; exact List.mem_map.2 ⟨x, (fndK_some hx).1, rfl⟩
    have h1 := sz_mem this
    have := h.ok.room
    have := h.ok.most
    have h2 : x.abs.data.length = x.data.length := rfl
    omega
  clear hsp h hd hx hfu
  generalize ({ ticked s with L := updK AF.key n.data.toList syncF s.L } : Dk) = sd at *
  go_enter Tryz.func133, Tryz.ntmps133
  go_wp2_with (first
    | (go_at_call 131; (with_reducible refine HI.out.mono ?_); rintro e w1 ⟨rfl, rfl⟩)
    | (go_at_call 71; (with_reducible refine HS.out.mono ?_); rintro e w2 ⟨rfl, ao, cap, d0, d1, d2, HP⟩))
  go_ret
  exact HP.out

/-- SYNC. -/
theorem sync_any (h : DiskIs w S a s) (n : ByteArray) (hn : n.size ≤ maxLen) :
    Calls Tryz.prog 133 #[.pointer (some ⟨a, 0, none⟩), .string n] w (OpPost w S a (syn s n.data.toList)) := by
  obtain ⟨mb, F, h⟩ := h
  cases hd : s.dead with
  | true => exact sync_fail h n hn (.inl hd)
  | false =>
    cases hx : fndK Fl.key n.data.toList F with
    | none => exact sync_fail h n hn (.inr hx)
    | some x =>
      by_cases hfu : s.fuse = 0
      · have : syn s n.data.toList = ({ s with dead := true }, 7) := by unfold syn; rw [(need_ok h hd hx).2, spends_dead hfu]
        rw [this]
        exact sync_dead h n hn hd hx hfu
      · have : syn s n.data.toList = ({ ticked s with L := updK AF.key n.data.toList syncF s.L }, 0) := by unfold syn; rw [(need_ok h hd hx).2, spends_ok hfu]; rfl
        rw [this]
        exact sync_ok h n hn hd hx hfu

set_option maxHeartbeats 1000000 in
theorem trunc_fail (h : DiskRep w S a mb F s) (n : ByteArray) (hn : n.size ≤ maxLen) (hx : s.dead = true ∨ fndK Fl.key n.data.toList F = none) (k0 : Int) :
    Calls Tryz.prog 188 #[.pointer (some ⟨a, 0, none⟩), .string n, .int .i64 k0] w (OpPost w S a (trunc s n.data.toList k0)) := by
  obtain ⟨k, hk, hv, hneed⟩ := need_fail h n hx
  have hr : trunc s n.data.toList k0 = (s, k) := hneed _
  rw [hr]
  have HF := hid (show OpPost w S a (s, k) (.returned (.int .i64 k)) w from OpPost.none h (Below.refl _ _) rfl rfl)
  have HI := hid (find_is w h n hn _ hv)
  clear hr hneed hv h hx
  rcases hk with rfl | rfl
  all_goals
    go_enter Tryz.func188, Tryz.ntmps188
    go_wp2_with (go_at_call 131; (with_reducible refine HI.out.mono ?_); rintro e w1 ⟨rfl, rfl⟩)
    go_ret
    exact HF.out

theorem file_len (h : DiskRep w S a mb F s) {n : List UInt8} {x : Fl} (hx : fndK Fl.key n F = some x) : x.data.length ≤ 10000000 ∧ x.synced ≤ x.data.length := by
  have hm : x.abs ∈ s.L := by rw [h.abs]; exact List.mem_map.2 ⟨x, (fndK_some hx).1, rfl⟩
  have h1 := sz_mem hm
  have := h.ok.room
  have := h.ok.most
  have h2 : x.abs.data.length = x.data.length := rfl
  exact ⟨by omega, h.ok.sync _ hm⟩
set_option maxHeartbeats 1000000 in
theorem trunc_range (h : DiskRep w S a mb F s) (n : ByteArray) (hn : n.size ≤ maxLen) (hd : s.dead = false) {x : Fl} (hx : fndK Fl.key n.data.toList F = some x) (k : Int) (hk : k < 0 ∨ (x.data.length : Int) < k) :
    Calls Tryz.prog 188 #[.pointer (some ⟨a, 0, none⟩), .string n, .int .i64 k] w (OpPost w S a (s, 2)) := by
  have HI := hid (find_is w h n hn _ (need_ok h hd hx).1)
  have HF := hid (show OpPost w S a (s, 2) (.returned (.int .i64 2)) w from OpPost.none h (Below.refl _ _) rfl rfl)
  have hf := h.files x (fndK_some hx).1
  obtain ⟨ao, cap, hv⟩ := hf.slice
  have c0 := hf.blk.cell 0
  rw [hv] at c0
  simp at c0
  have hl := (file_len h hx).1
  clear h hd hx hf hv
  generalize x.data.length = L at *
  rcases hk with hk | hk
  · go_enter Tryz.func188, Tryz.ntmps188
    go_wp2_with (go_at_call 131; (with_reducible refine HI.out.mono ?_); rintro e w1 ⟨rfl, rfl⟩)
    go_ret
    exact HF.out
  · have hk0 : 0 ≤ k := by omega
    go_enter Tryz.func188, Tryz.ntmps188
    go_wp2_with (go_at_call 131; (with_reducible refine HI.out.mono ?_); rintro e w1 ⟨rfl, rfl⟩)
    go_ret
    exact HF.out

set_option maxHeartbeats 1000000 in
theorem trunc_dead (h : DiskRep w S a mb F s) (n : ByteArray) (hn : n.size ≤ maxLen) (hd : s.dead = false) {x : Fl} (hx : fndK Fl.key n.data.toList F = some x) (hfu : s.fuse = 0) (k : Int) (hk0 : 0 ≤ k) (hk : k ≤ (x.data.length : Int)) :
    Calls Tryz.prog 188 #[.pointer (some ⟨a, 0, none⟩), .string n, .int .i64 k] w (OpPost w S a ({ s with dead := true }, 7)) := by
  have HI := hid (find_is w h n hn _ (need_ok h hd hx).1)
  have HS := hid (spend_dead h hfu)
  have hf := h.files x (fndK_some hx).1
  obtain ⟨ao, cap, hv⟩ := hf.slice
  have c0 := hf.blk.cell 0
  rw [hv] at c0
  simp at c0
  have hl := (file_len h hx).1
  clear h hd hx hfu hf hv
  generalize x.data.length = L at *
  generalize ({ s with dead := true } : Dk) = sd at *
  go_enter Tryz.func188, Tryz.ntmps188
  go_wp2_with (first
    | (go_at_call 131; (with_reducible refine HI.out.mono ?_); rintro e w1 ⟨rfl, rfl⟩)
    | (go_at_call 71; (with_reducible refine HS.out.mono ?_); rintro e w2 ⟨rfl, hP⟩; have HP := hid hP; clear hP))
  go_ret
  exact HP.out

def TruncTail (w : World) (S : Nat → Prop) (a : Nat) (r : Dk × Int) (x : Fl) (k : Nat) (e : Ending) (w2 : World) : Prop :=
  e = .returned (.int .i64 0) ∧ ∃ ao cap, w2.cell? ⟨x.g, 0, none⟩ = some (.slice ao x.data.length cap) ∧ w2.frozen? ⟨x.g, 0, none⟩ = false ∧ (∀ v, (w2.setCell ⟨x.g, 0, none⟩ v).cell? ⟨x.g, 1, none⟩ = some (.int .i64 x.synced)) ∧ (∀ v, (w2.setCell ⟨x.g, 0, none⟩ v).frozen? ⟨x.g, 1, none⟩ = false) ∧
    (∀ wx : World, (Instr.slice 93 (.slice ao x.data.length cap) none (some (.int .i64 (k : Int))) none).run Tryz.prog wx = .ok (.slice ao k cap) wx) ∧
    Hid (OpPost w S a r (.returned (.int .i64 0)) ((w2.setCell ⟨x.g, 0, none⟩ (.slice ao k cap)).setCell ⟨x.g, 1, none⟩ (.int .i64 (min (x.synced : Int) (k : Int)))))
theorem run_slice_to (wx : World) (ao : Option Addr) (L cap k : Nat) (hk : k ≤ cap) (hao : ao = none → cap = 0) : (Instr.slice 93 (.slice ao L cap) none (some (.int .i64 (k : Int))) none).run Tryz.prog wx = .ok (.slice ao k cap) wx := by
  cases ao with
  | none =>
    obtain rfl := hao rfl
    obtain rfl : k = 0 := by omega
    simp [go_sem, Instr.slice, run_underlying Tryz.underlying93]
  | some q =>
    simp [go_sem, Instr.slice, run_underlying Tryz.underlying93, hk]
set_option maxHeartbeats 1000000 in
theorem trunc_ok (h : DiskRep w S a mb F s) (n : ByteArray) (hn : n.size ≤ maxLen) (hd : s.dead = false) {x : Fl} (hx : fndK Fl.key n.data.toList F = some x) (hfu : s.fuse ≠ 0) (k : Nat) (hk : k ≤ x.data.length) :
    Calls Tryz.prog 188 #[.pointer (some ⟨a, 0, none⟩), .string n, .int .i64 (k : Int)] w (OpPost w S a ({ ticked s with L := updK AF.key n.data.toList (cutF k) s.L }, 0)) := by
  have HI := hid (find_is w h n hn _ (need_ok h hd hx).1)
  have hsp : Calls Tryz.prog 71 #[.pointer (some ⟨a, 0, none⟩)] w (TruncTail w S a ({ ticked s with L := updK AF.key n.data.toList (cutF k) s.L }, 0) x k) := by
    refine (spend_hid w h 0 (if_neg hfu) _ (if_neg hfu)).mono ?_
    rintro e w2 ⟨rfl, hD, hc, hz⟩
    have hf := hD.files x (fndK_some hx).1
    obtain ⟨ao, cap, hv⟩ := hf.slice
    have hcap : x.data.length ≤ cap ∧ (ao = none → cap = 0) := by
      rcases hf.row.2 with ⟨h2, h0⟩ | ⟨g, cap', cur, h2, _, _, hnc, _⟩
      · rw [hv] at h2; simp at h2; exact ⟨by omega, fun _ => h2.2.2⟩
      · rw [hv] at h2; simp at h2; rw [h2.2]; exact ⟨hnc, fun e => by rw [e] at h2; simp at h2⟩
    have hb := hf.blk
    rw [hv] at hb
    have hc' : Chg S w w2 := hc.mono (fun b e => by rw [e]; exact h.inA)
    have hset := (hb.set 0 (.slice ao k cap)).set 1 (.int .i64 (min (x.synced : Int) (k : Int)))
    have hmin : (min (x.synced : Int) (k : Int)) = ((min x.synced k : Nat) : Int) := by omega
    have ht := cells_tail hD hx (cutF k) (fun _ => rfl) hv hk (m := min x.synced k) (by simp [cutF, Fl.abs]) (Ok_upd hD.ok 0 (fun _ => rfl) (fun f hf => by simp [cutF]; omega) (fun f => by simp [cutF]; omega) (by have := hD.ok.room; omega)) _ (by rw [hmin] at hset; simpa using hset) ((Chg.setCell w2 ⟨x.g, 0, none⟩ _).trans (Chg.setCell _ ⟨x.g, 1, none⟩ _) (fun b hb => .inl hb))
    obtain ⟨⟨mb', F', h1⟩, h2⟩ := ht
    refine ⟨rfl, ao, cap, by rw [hb.cell 0]; rfl, hb.frozen 0, fun v => by rw [(hb.set 0 v).cell 1]; rfl, fun v => (hb.set 0 v).frozen 1, fun wx => run_slice_to wx ao _ cap k (by omega) hcap.2, hid ?_⟩
    rw [hmin]
    exact ⟨rfl, ⟨mb', F', h1.after (fun b hb => .inl hb) h.lt hc'.size h2.size⟩, hc'.trans h2 (fun b hb => .inl hb)⟩
  have HS := hid hsp
  have hlen := file_len h hx
  have hf := h.files x (fndK_some hx).1
  obtain ⟨ao0, cap0, hv⟩ := hf.slice
  have c0 := hf.blk.cell 0
  rw [hv] at c0
  simp at c0
  obtain ⟨hl1, hl2⟩ := hlen
  clear hsp h hd hx hfu hf hv
  generalize ({ ticked s with L := updK AF.key n.data.toList (cutF k) s.L } : Dk) = sd at *
  have hq : decide ((k : Int) > (x.data.length : Int)) = false := by simp; omega
  go_enter Tryz.func188, Tryz.ntmps188
  go_wp2_with (first
    | (go_at_call 131; (with_reducible refine HI.out.mono ?_); rintro e w1 ⟨rfl, rfl⟩)
    | (go_at_call 71; (with_reducible refine HS.out.mono ?_); rintro e w2 ⟨rfl, ao, cap, d0, d1, d2, d3, d4, HP⟩))
  go_ret
  exact HP.out

/-- TRUNCATE. -/
theorem trunc_any (h : DiskIs w S a s) (n : ByteArray) (hn : n.size ≤ maxLen) (k : Int) :
    Calls Tryz.prog 188 #[.pointer (some ⟨a, 0, none⟩), .string n, .int .i64 k] w (OpPost w S a (trunc s n.data.toList k)) := by
  obtain ⟨mb, F, h⟩ := h
  cases hd : s.dead with
  | true => exact trunc_fail h n hn (.inl hd) k
  | false =>
    cases hx : fndK Fl.key n.data.toList F with
    | none => exact trunc_fail h n hn (.inr hx) k
    | some x =>
      by_cases hk : k < 0 ∨ (x.data.length : Int) < k
      · have : trunc s n.data.toList k = (s, 2) := by unfold trunc; rw [(need_ok h hd hx).2, if_pos (show k < 0 ∨ (x.abs.data.length : Int) < k from hk)]
        rw [this]
        exact trunc_range h n hn hd hx k hk
      · by_cases hfu : s.fuse = 0
        · have : trunc s n.data.toList k = ({ s with dead := true }, 7) := by unfold trunc; rw [(need_ok h hd hx).2, if_neg (show ¬ (k < 0 ∨ (x.abs.data.length : Int) < k) from hk), spends_dead hfu]
          rw [this]
          exact trunc_dead h n hn hd hx hfu k (by omega) (by omega)
        · obtain ⟨k', rfl⟩ := Int.eq_ofNat_of_zero_le (show 0 ≤ k by omega)
          have : trunc s n.data.toList (k' : Int) = ({ ticked s with L := updK AF.key n.data.toList (cutF k') s.L }, 0) := by unfold trunc; rw [(need_ok h hd hx).2, if_neg (show ¬ ((k' : Int) < 0 ∨ (x.abs.data.length : Int) < (k' : Int)) from hk), spends_ok hfu]; rfl
          rw [this]
          exact trunc_ok h n hn hd hx hfu k' (by omega)
end
end Go.Proofs.YtpcafkinpkepcaaGreatDoor

