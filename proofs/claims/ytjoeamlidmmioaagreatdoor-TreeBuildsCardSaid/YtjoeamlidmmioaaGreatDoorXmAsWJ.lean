import Derived.Test.YtjoeamlidmmioaaGreatDoorXmAsJ
/-
  LAYER 11 (xml), THE LAWS' OWN HELPERS: as, walked.
-/
namespace Go.Proofs.YtjoeamlidmmioaaGreatDoor
open Go.RowKit
set_option linter.unusedVariables false
set_option maxRecDepth 100000

/-- A token that is short. -/
structure TkSm (t : TkX) : Prop where
  ln : t.n.length ≤ 100
  lt : t.t.length ≤ 500
  la : t.as.length ≤ 20
  at' : ∀ z ∈ t.as, z.n.length ≤ 100 ∧ z.v.length ≤ 300
theorem mk_len (l : List UInt8) : (mk l).size = l.length := by rw [mk_size]
/-- as: not that many, or not that long; or the rows. -/
def AsPost' (w : World) (L : List TkX) (e : Ending) (w' : World) : Prop :=
  Below w.heap.size w w' ∧ (e = .returned (.tuple #[.slice none 0 0, .bool false]) ∨ ∃ a c, e = .returned (.tuple #[.slice a L.length c, .bool true]) ∧ RokAt w' (.slice a L.length c) L ∧ L.length ≤ 100 ∧ ∀ t ∈ L, TkSm t)
def AsPost (w : World) (L : List TkX) (e : Ending) (w' : World) : Prop :=
  Below w.heap.size w w' ∧ (e = .returned (.tuple #[.slice none 0 0, .bool false]) ∨ ∃ a c, e = .returned (.tuple #[.slice a L.length c, .bool true]) ∧ RokAt w' (.slice a L.length c) L ∧ L.length ≤ 100 ∧ ∀ t ∈ L, t.as.length ≤ 20)
def AsRel (w : World) (L : List TkX) (v i : Value) (wr : World) : Prop := ∃ k V ao cap, k ≤ L.length ∧ i = .int .i64 (k : Nat) ∧ v = .slice ao k cap ∧ AsMid w wr (.slice ao k cap) V (L.take k) ∧ ∀ t ∈ L.take k, TkSm t
def AtRel (b : Nat) (w5 : World) (t : TkX) (i : Value) (wr : World) : Prop := ∃ k a2 c2, k ≤ t.as.length ∧ i = .int .i64 (k : Nat) ∧ Below b w5 wr ∧ own wr b #[.int .i64 t.k, .string (mk t.n), .slice a2 k c2, .string (mk t.t)] 50 ∧ ROwn raTy wr (.slice a2 k c2) (t.as.take k) ∧ (∀ g, (Value.slice a2 k c2).ownBlock = some g → b < g) ∧ ∀ z ∈ t.as.take k, z.n.length ≤ 100 ∧ z.v.length ≤ 300
end Go.Proofs.YtjoeamlidmmioaaGreatDoor


