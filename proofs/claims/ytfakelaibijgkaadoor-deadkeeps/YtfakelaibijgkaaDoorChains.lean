/- Programs that are nested. -/
import Derived.Test.YtfakelaibijgkaaDoorPlain
namespace Go.Proofs.YtfakelaibijgkaaDoor
open Go.RowKit
def chain (c : Nat) : Nat → List Nd
  | 0 => [nopN]
  | n + 1 => match c with
    | 0 => newN 27 0 [] [chain c n]
    | 1 => newN 25 0 [] [[nopN], chain c n]
    | _ => newN 31 0 [102] [chain c n]
def isFine : Rs → Bool
  | .fine => true
  | _ => false
def isNest (i : Nat) : Rs → Bool
  | .nest j => i == j
  | _ => false
def chainOk (c n : Nat) : Bool := if n + 1 ≤ 30 then isFine (checkL (chain c n)) else isNest (if c = 1 then 59 else 30) (checkL (chain c n))
theorem chains0 : ((List.range 64).all fun n => chainOk 0 n) = true := by decide +kernel
theorem chains1a : ((List.range 32).all fun n => chainOk 1 n) = true := by decide +kernel
theorem chains1b : ((List.range 32).all fun n => chainOk 1 (n + 32)) = true := by decide +kernel
theorem chains2 : ((List.range 64).all fun n => chainOk 2 n) = true := by decide +kernel
theorem chain_ok (c n : Nat) (hc : c < 3) (hn : n < 64) : chainOk c n = true := by
  match c, hc with
  | 0, _ => exact List.all_eq_true.1 chains0 n (List.mem_range.2 hn)
  | 1, _ =>
    by_cases h : n < 32
    · exact List.all_eq_true.1 chains1a n (List.mem_range.2 h)
    · have := List.all_eq_true.1 chains1b (n - 32) (List.mem_range.2 (by omega))
      rw [show n - 32 + 32 = n by omega] at this
      exact this
  | 2, _ => exact List.all_eq_true.1 chains2 n (List.mem_range.2 hn)
theorem chain_fine (c n : Nat) (hc : c < 3) (hn : n + 1 ≤ 30) : checkL (chain c n) = .fine := by
  have h := chain_ok c n hc (by omega)
  unfold chainOk at h
  rw [if_pos hn] at h
  cases hr : checkL (chain c n) with
  | fine => rfl
  | many => rw [hr] at h; cases h
  | node i => rw [hr] at h; cases h
  | nest i => rw [hr] at h; cases h
theorem chain_nest (c n : Nat) (hc : c < 3) (hn : ¬ n + 1 ≤ 30) (h64 : n < 64) : checkL (chain c n) = .nest (if c = 1 then 59 else 30) := by
  have h := chain_ok c n hc h64
  unfold chainOk at h
  rw [if_neg hn] at h
  cases hr : checkL (chain c n) with
  | fine => rw [hr] at h; cases h
  | many => rw [hr] at h; cases h
  | node i => rw [hr] at h; cases h
  | nest i =>
    rw [hr] at h
    have : (if c = 1 then 59 else 30) = i := by simpa [isNest] using h
    rw [this]
end Go.Proofs.YtfakelaibijgkaaDoor
