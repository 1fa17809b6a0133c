import Derived.Test.YtbidglefddmjhaaGreatDoorWlKeepQJ
import Derived.Test.YtbidglefddmjhaaGreatDoorWlAgainAJ
import Derived.Test.YtbidglefddmjhaaGreatDoorWlSameJ
/-
  LAYER 3 (wal), the law WalKeeps: how a log that may die stands between two acts, and behind the last of them.
-/
namespace Go.Proofs.YtbidglefddmjhaaGreatDoor
open Go.RowKit Go.Maps
set_option linter.unusedVariables false
set_option maxRecDepth 100000

/-- Where no fuse burns, a trim ends well. -/
theorem tr_calm {s : Dk} (hG : Good (cool s)) (hf : s.fuse < 0) {n : List UInt8} (hnm : n ∈ s.L.map AF.name) {k : Nat} (hk : k ≤ (dat s n).length) : (trL s n (k : Int)).2 = 0 := by
  have ha : s.dead = false := hG.alive
  obtain ⟨f0, hf0, _⟩ := rd_in (s := cool s) hG.alive hG.ok hnm
  have hf0 : fndK AF.key n s.L = some f0 := hf0
  have hdat : dat s n = f0.data := by unfold dat; rw [hf0]; rfl
  rw [hdat] at hk
  have htr := trunc_at ha hf0 hk
  have h0 : ¬ s.fuse = 0 := by omega
  have hx : (if 0 < s.fuse then s.fuse - 1 else s.fuse) = s.fuse := if_neg (by omega)
  have h1 : (spends s fun s => { s with L := updK AF.key n (cutF k) s.L }) = ({ s with fuse := s.fuse, L := updK AF.key n (cutF k) s.L }, 0) := by
    unfold spends
    rw [if_neg h0, hx]
  unfold trL
  rw [htr, h1, if_pos rfl]
  unfold syn need
  rw [if_neg (by show ¬ s.dead = true; rw [ha]; simp)]
  show (match fndK AF.key n (updK AF.key n (cutF k) s.L) with | none => (_ : Dk × Int) | some f => _).2 = 0
  rw [fndK_upd (key := AF.key) (g := cutF k) (fun _ => rfl), if_pos rfl, hf0]
  show (spends _ _).2 = 0
  unfold spends
  rw [if_neg (by show ¬ s.fuse = 0; exact h0)]
theorem opened_calm {s : Dk} {g : Lg} (h : Rd s g) (hf : s.fuse < 0) {n : List UInt8} (hl : (segsL s.L).getLast? = some n) : (tornR s n).2 = 0 := by
  unfold tornR
  by_cases hq : (scanL (dat s n)).2.2 = 0
  · rw [if_pos hq]
  · rw [if_neg hq]
    exact tr_calm h.good hf (mem_segsL.1 (List.mem_of_getLast? hl)).2 (scanL_le (dat s n).length (dat s n) (Nat.le_refl _)).1
theorem rd_last {s : Dk} {g : Lg} (h : Rd s g) : ∃ n, (segsL s.L).getLast? = some n := by
  cases e : (segsL s.L).getLast? with
  | none => exact absurd (List.getLast?_eq_none_iff.1 e) h.lie.ne0
  | some n => exact ⟨n, rfl⟩
/-- What may be read behind it all. -/
def Fin3 (g g' : Lg) (died reset : Bool) (now : List En) (next : Hd) : Prop := g' = g ∨ (died = true ∧ ((reset = true ∧ g' = ⟨g.hd, []⟩) ∨ (reset = false ∧ ∃ i, i ≤ now.length ∧ g' = ⟨next, putEs g.L (now.take i)⟩)))
theorem allS_open0 {m : Int} (h0 : 100 ≤ m) (h1 : m ≤ 10000000) : AllS (open0 (newD m)).1 := by
  obtain ⟨k1, k2, _⟩ := open0_good h0 h1
  unfold open0 at k1 k2 ⊢
  exact allS_wr (good_new (by omega) h1) (fun f hf => by simp [newD] at hf) (isSeg_segN (n := 1) (by omega) (by omega)) _ k1 k2
/-- A log that may die, between two acts. -/
structure Ke (W wx : World) (T : Nat → Prop) (q p a B0 k : Nat) (s : Dk) (g : Lg) : Prop where
  log : LogAt wx T p a s g
  pair : PairAt wx q a p
  tq : ¬ T q
  keep : Kp s g
  lgin : LgIn k g
  ge : ∀ b, T b → W.heap.size ≤ b
  qge : W.heap.size ≤ q
  glob : Glob wx B0
  b0 : B0 ≤ W.heap.size
  below : Below W.heap.size W wx
  most : s.most = 100000
theorem Ke.later {W wx wy : World} {T : Nat → Prop} {q p a B0 k : Nat} {s : Dk} {g : Lg} (h : Ke W wx T q p a B0 k s g) (hb : Below wx.heap.size wx wy) : Ke W wy T q p a B0 k s g :=
  ⟨h.log.below hb, own.same h.pair (hb.block _ (own.lt h.pair)), h.tq, h.keep, h.lgin, h.ge, h.qge, h.glob.below hb (by have := h.b0; have := h.below.size; omega), h.b0, h.below.trans (hb.mono h.below.size), h.most⟩
/-- A log that has died, or not, behind the last act: what a crash leaves. -/
structure Kd (W wx : World) (T : Nat → Prop) (q p a B0 : Nat) (s : Dk) (g : Lg) (died reset : Bool) (now : List En) (next : Hd) : Prop where
  log : LogAt wx T p a s g
  pair : PairAt wx q a p
  tq : ¬ T q
  ge : ∀ b, T b → W.heap.size ≤ b
  qge : W.heap.size ≤ q
  glob : Glob wx B0
  b0 : B0 ≤ W.heap.size
  below : Below W.heap.size W wx
  most : s.most = 100000
  ends : ∀ ks ns, ∃ g', Rd (crash s ks ns) g' ∧ Fin3 g g' died reset now next
  okN : died = true → reset = false → ∀ e ∈ now, entB e = true ∧ e.In
theorem Kd.later {W wx wy : World} {T : Nat → Prop} {q p a B0 : Nat} {s : Dk} {g : Lg} {died reset : Bool} {now : List En} {next : Hd} (h : Kd W wx T q p a B0 s g died reset now next) (hb : Below wx.heap.size wx wy) : Kd W wy T q p a B0 s g died reset now next :=
  ⟨h.log.below hb, own.same h.pair (hb.block _ (own.lt h.pair)), h.tq, h.ge, h.qge, h.glob.below hb (by have := h.b0; have := h.below.size; omega), h.b0, h.below.trans (hb.mono h.below.size), h.most, h.ends, h.okN⟩
theorem Ke.kd {W wx : World} {T : Nat → Prop} {q p a B0 k : Nat} {s : Dk} {g : Lg} (h : Ke W wx T q p a B0 k s g) (reset : Bool) (now : List En) (next : Hd) : Kd W wx T q p a B0 s g false reset now next :=
  ⟨h.log, h.pair, h.tq, h.ge, h.qge, h.glob, h.b0, h.below, h.most, fun ks ns => ⟨g, rd_crash h.keep.rd ks ns, .inl rfl⟩, fun e => by cases e⟩
theorem LogAt.disk {wx : World} {T : Nat → Prop} {p a : Nat} {s : Dk} {g : Lg} (h : LogAt wx T p a s g) : s.Ok := by
  obtain ⟨⟨S, v, ⟨mb, F, hd⟩, _⟩, _⟩ := h
  exact hd.ok
/-- An act: it is done and does not die, or it dies. -/
theorem Ke.does {W wx : World} {T : Nat → Prop} {q p a B0 k n : Nat} {s : Dk} {g : Lg} (h : Ke W wx T q p a B0 k s g) (hk : k < n) (hn : n ≤ 40) (ac : Wa) (hac : WaOk ac) (hop : pickZ ac.op 10 < 7) (kv nv : Value) (hkv : ∃ x n c, kv = .slice x n c) (hnv : ∃ x n c, nv = .slice x n c) :
    Calls Tryz.prog 15 #[.pointer (some ⟨q, 0, none⟩), waV ac kv nv] wx fun e wy => ∃ r : Int, e = .returned (.int .i64 r) ∧
      ((r ≠ 7 ∧ ∃ s' g', Ke W wy (grow T wx wy) q p a B0 (k + 1) s' g') ∨ (r = 7 ∧ ∃ s', ∀ now next, (pickZ ac.op 10 ≠ 6 → now = entA ac ∧ next = hdA ac) → Kd W wy (grow T wx wy) q p a B0 s' g true (decide (pickZ ac.op 10 = 6)) now next)) ∧ Chg T wx wy := by
  have hl := h.lgin.len
  refine (does_any3 h.log h.pair h.tq h.glob (by have := h.b0; have := h.below.size; omega) ac hac hop (by omega) kv nv hkv hnv).mono ?_
  rintro e wy ⟨he, hr⟩
  refine ⟨_, he, ?_, hr.2⟩
  have hqlt := own.lt h.pair
  have hz := hr.2.size
  have hge : ∀ b, grow T wx wy b → W.heap.size ≤ b := fun b hb => by
    rcases hb with hb | hb
    · exact h.ge b hb
    · have := h.below.size; omega
  have htq : ¬ grow T wx wy q := fun e => e.elim h.tq (fun e => by omega)
  have hpair : PairAt wy q a p := own.same h.pair (hr.2.block _ hqlt h.tq)
  have hgl : Glob wy B0 := h.glob.chg hr.2 (by have := h.b0; have := h.below.size; omega) (fun b hb => by have := h.ge b hb; have := h.b0; omega)
  have hbl : Below W.heap.size W wy := h.below.trans (hr.2.below h.below.size h.ge)
  rcases h.keep.act h.lgin hac with ⟨a1, a2, a3, _, a5⟩ | ⟨e1, e2, e3⟩
  · exact .inl ⟨a5, _, _, hr.1, hpair, htq, a1, a2, hge, h.qge, hgl, h.b0, hbl, by rw [a3]; exact h.most⟩
  · have hlog := hr.1
    have hgg : (actW s g ac).2.1 = g := by rw [e1]
    have h7 : (actW s g ac).2.2 = 7 := by rw [e1]
    rw [hgg] at hlog
    refine .inr ⟨h7, (actW s g ac).1, fun now next hnn => ⟨hlog, hpair, htq, hge, h.qge, hgl, h.b0, hbl, ?_, fun ks ns => ?_, fun _ hr => ?_⟩⟩
    · have := e3.most
      rw [this]; exact h.most
    · obtain ⟨g', h1, h2⟩ := died_read h.keep h.lgin hac e2 hlog.disk e3 ks ns
      refine ⟨g', h1, ?_⟩
      rcases h2 with h2 | ⟨h6, h2⟩ | ⟨h6, i, hi, h2⟩
      · exact .inl h2
      · exact .inr ⟨rfl, .inl ⟨decide_eq_true h6, h2⟩⟩
      · obtain ⟨n1, n2⟩ := hnn h6
        exact .inr ⟨rfl, .inr ⟨decide_eq_false h6, i, by rw [n1]; exact hi, by rw [n1, n2]; exact h2⟩⟩
    · have h6 : pickZ ac.op 10 ≠ 6 := of_decide_eq_false hr
      obtain ⟨n1, n2⟩ := hnn h6
      rw [n1]
      exact fun e he => ⟨all_entB (e2 h6).1 e he, (entA_in hac e he).1⟩
end Go.Proofs.YtbidglefddmjhaaGreatDoor

/-
  LAYER 3 (wal), the laws' own helpers: whether an entry is there.
-/
namespace Go.Proofs.YtbidglefddmjhaaGreatDoor
open Go.RowKit Go.Maps
set_option linter.unusedVariables false
set_option maxRecDepth 100000

def enV (x : En) : Value := .agg #[.int .i64 x.idx, .int .i64 x.term, .int .i64 x.kind, .string (mk x.data)]
def HasRel (w : World) (L : List En) (x : En) (i : Value) (wr : World) : Prop := ∃ k : Nat, k ≤ L.length ∧ i = .int .i64 k ∧ Below w.heap.size w wr ∧ ∀ y ∈ L.take k, y ≠ x
def HasPost (w : World) (L : List En) (x : En) (e : Ending) (w' : World) : Prop := ∃ b, e = .returned (.bool b) ∧ (b = true ↔ x ∈ L) ∧ Below w.heap.size w w'
end Go.Proofs.YtbidglefddmjhaaGreatDoor


