/- A run of a small program, in memory; programs that are joined. -/
import Derived.Test.YtfafhjglcaikoaaGreatDoorG35
import Derived.Test.YtfafhjglcaikoaaGreatDoorG36
/-! What the programs of the laws come to: plain. -/
namespace Go.Proofs.YtfafhjglcaikoaaGreatDoor
open Go.RowKit

/-- Is a program one whose parts are small? -/
def smallB (X : List Nd) : Bool := decide (X.length ≤ 1000) && X.all (fun x => decide (x.s.length ≤ 300) && decide (x.k ≤ 4294967296)) && (match checkL X with | .fine => true | _ => false)
theorem small_of {X : List Nd} (h : smallB X = true) : X.length ≤ 1000 ∧ (∀ x ∈ X, x.s.length ≤ 300 ∧ x.k ≤ 4294967296) ∧ checkL X = .fine := by
  simp only [smallB, Bool.and_eq_true, decide_eq_true_eq, List.all_eq_true] at h
  refine ⟨h.1.1, h.1.2, ?_⟩
  have := h.2
  split at this
  · assumption
  · cases this
/-- Is what has come small? -/
def smallR (s : Sh) : Bool := decide (s.E.length ≤ 1000) && s.E.all (fun q => decide (q.l.length ≤ 1000)) && decide (s.D.length ≤ 1000) && s.D.all (fun p => decide (p.1.length ≤ 1000)) && decide (s.F.length ≤ 1000) && s.F.all (fun p => decide (p.1.length ≤ 1000))

/-! ### a text that doubles -/
def bigA : List Nd := newN 22 0 [120] [lN9 [97]]
def bigZ : List Nd := newN 2 0 [120] []
def bigX : List Nd := newN 9 0 [] [bigZ]
def bigY : List Nd := newN 4 0 [] [bigX, bigX]
def bigJ : List Nd := newN 22 0 [120] [bigY]
def seqP : List (List Nd) → List Nd
  | [X] => X
  | L => newN 23 0 [] L
def progBig (n : Nat) : List Nd := seqP (bigA :: List.replicate n bigJ)
def bigN (n : Nat) : Nat := if n ≤ 10 then 2 ^ n else 1024
def bigS (n : Nat) : Nat := if n ≤ 10 then n + 1 else 12
def bigE (n : Nat) : Xr := if n ≤ 10 then .ok else .big
def bigOk (n : Nat) : Bool := smallB (progBig n) && (match (ev 40).1 (progBig n) st0 with
  | none => false
  | some r => decide (noStar r.1.F = [([120], [List.replicate (bigN n) 97])]) && decide (r.1.st = bigS n) && decide (r.2.2 = bigE n) && smallR r.1 && decide (r.2.1 = 0))
theorem big_all : (List.range 16).all bigOk = true := by kernel_rfl
theorem big_at {n : Nat} (h : n < 16) : smallB (progBig n) = true ∧ ∃ r, (ev 40).1 (progBig n) st0 = some r ∧ noStar r.1.F = [([120], [List.replicate (bigN n) 97])] ∧ r.1.st = bigS n ∧ r.2.2 = bigE n ∧ smallR r.1 = true ∧ r.2.1 = 0 := by
  have h1 := List.all_eq_true.1 big_all n (List.mem_range.2 h)
  simp only [bigOk, Bool.and_eq_true] at h1
  refine ⟨h1.1, ?_⟩
  have h2 := h1.2
  split at h2
  · cases h2
  · rename_i r hr
    simp only [Bool.and_eq_true, decide_eq_true_eq] at h2
    exact ⟨r, hr, h2.1.1.1.1, h2.1.1.1.2, h2.1.1.2, h2.1.2, h2.2⟩

/-! ### how deep -/
def deepC (X : List Nd) : List Nd := newN 12 0 [] [newN 21 0 [] [lN9 [112, 117, 116], X]]
def deepW : Nat → List Nd
  | 0 => lN9 [97]
  | n + 1 => deepC (deepW n)
def progW (n : Nat) : List Nd := newN 22 0 [120] [deepW n]
def deepE (n d : Nat) : Xr := if d < n then .deep else .ok
def deepOk (n d : Nat) : Bool := smallB (progW n) && (match (ev 60).1 (progW n) (start [] 1500 d []) with
  | none => false
  | some r => decide (r.2.2 = deepE n d) && (decide (d < n) || decide (noStar r.1.F = [([120], [[97]])])) && smallR r.1)
theorem deep_all : (List.range 12).all (fun n => (List.range 20).all (deepOk n)) = true := by kernel_rfl
theorem deep_at {n d : Nat} (h : n < 12) (hd : d < 20) : smallB (progW n) = true ∧ ∃ r, (ev 60).1 (progW n) (start [] 1500 d []) = some r ∧ r.2.2 = deepE n d ∧ (n ≤ d → noStar r.1.F = [([120], [[97]])]) ∧ smallR r.1 = true := by
  have h1 := List.all_eq_true.1 (List.all_eq_true.1 deep_all n (List.mem_range.2 h)) d (List.mem_range.2 hd)
  simp only [deepOk, Bool.and_eq_true] at h1
  refine ⟨h1.1, ?_⟩
  have h2 := h1.2
  split at h2
  · cases h2
  · rename_i r hr
    simp only [Bool.and_eq_true, Bool.or_eq_true, decide_eq_true_eq] at h2
    exact ⟨r, hr, h2.1.1, fun hn => h2.1.2.resolve_left (by omega), h2.2⟩
def progF : List Nd := newN 23 0 [] [newN 31 0 [102] [newN 23 0 [] [callN [[112, 117, 116], [46]], callN [[102]]]], callN [[102]]]
def deepG (d : Nat) : Bool := smallB progF && (match (ev 120).1 progF (start [] 1500 d []) with
  | none => false
  | some r => decide (r.2.2 = .deep) && decide (r.1.E.length = d) && smallR r.1)
theorem deepG_all : (List.range 20).all deepG = true := by kernel_rfl
theorem deepG_at {d : Nat} (hd : d < 20) : smallB progF = true ∧ ∃ r, (ev 120).1 progF (start [] 1500 d []) = some r ∧ r.2.2 = .deep ∧ r.1.E.length = d ∧ smallR r.1 = true := by
  have h1 := List.all_eq_true.1 deepG_all d (List.mem_range.2 hd)
  simp only [deepG, Bool.and_eq_true] at h1
  refine ⟨h1.1, ?_⟩
  have h2 := h1.2
  split at h2
  · cases h2
  · rename_i r hr
    simp only [Bool.and_eq_true, decide_eq_true_eq] at h2
    exact ⟨r, hr, h2.1.1, h2.1.2, h2.2⟩
end Go.Proofs.YtfafhjglcaikoaaGreatDoor
namespace Go.Proofs.YtfafhjglcaikoaaGreatDoor
open Go.RowKit
attribute [local go_sem] Oper.semAt_some

variable {W W' : World} {ea : Nat → Addr}
theorem okr_of {s : Sh} (h : smallR s = true) : Okr s := by
  simp only [smallR, Bool.and_eq_true, decide_eq_true_eq, List.all_eq_true] at h
  obtain ⟨⟨⟨⟨⟨h1, h2⟩, h3⟩, h4⟩, h5⟩, h6⟩ := h
  have hm := maxLen_big
  exact ⟨by omega, fun q hq => by have := h2 q hq; omega, by omega, fun p hp => by have := h6 p hp; omega, by omega, fun p hp => by have := h4 p hp; omega⟩
theorem run_mem {X : List Nd} {st dp n : Nat} {inp : Txt} {r : Cr} (v : Value) (w : World) (hE : ErX w ea) (h17 : 17 ≤ w.heap.size) (hn : NdAt w v X) (hs : smallB X = true) (h1 : st ≤ 1500) (h2 : dp ≤ 25) (h3 : inp.length ≤ 2000) (hev : (ev n).1 X (start [] st dp inp) = some r) (hr : smallR r.1 = true) (hx : r.2.2 ≠ .fin) :
    Calls Tryz.prog 26 #[v, wV (.slice none 0 0) (.slice none 0 0), oV st dp inp] w (RunC ea w r.2.1 r.2.2 r.1) := by
  obtain ⟨a1, a2, a3⟩ := small_of hs
  refine Calls.mono (run_any (ea := ea) v (.slice none 0 0) X [] st dp n inp r hE h17 hn (by omega) (fun x hx => ok_small x (a2 x hx).1 (a2 x hx).2) a3 (fl_nil w) (by simp) (fun p hp => by simp at hp) may_nil h1 h2 h3 hev (okr_of hr)) ?_
  rintro e w' ⟨u, p1, p2, p3⟩
  have hf : finR r.1 r.2.1 r.2.2 = (r.2.1, r.2.2) := if_neg hx
  rw [hf] at p2
  obtain ⟨ta, tn, tc, va, vn, vc, fa, fn, fc, xv, g1, g2, rfl⟩ := p2.parts
  exact ⟨ta, tn, tc, va, vn, vc, fa, fn, fc, xv, g1, g2, p1, p2, p3⟩
/-- A program of one's own, of a row of programs. -/
theorem newO_any (kind n : Int) (s : Txt) (v : Value) (L : List (List Nd)) (w : World) (h : KdL w v L) (hL : L.length < 4294967296) (hT : L.flatten.length < 4294967296) :
    Calls Tryz.prog 16 #[.int .i64 kind, .int .i64 n, str s, v] w fun e w' => ∃ v', e = .returned v' ∧ NdOwn w' w.heap.size v' (newN kind n s L) ∧ Below w.heap.size w w' := by
  obtain ⟨K, rfl, hk⟩ := h
  exact (new_own kind n s v K w hk (by simpa using hL) hT)
set_option maxRecDepth 100000 in
theorem seqN_any (v : Value) (K : List (Value × List Nd)) (w : World) (h : KdAt w v K) (h1 : 1 ≤ K.length) (hK : K.length < 4294967296) (hT : (kidL K).length < 4294967296) :
    Calls Tryz.prog 17 #[v] w fun e w' => ∃ v', e = .returned v' ∧ NdAt w' v' (seqP (K.map Prod.snd)) ∧ Below w.heap.size w w' := by
  rcases K with _ | ⟨p, _ | ⟨q, K⟩⟩
  · simp at h1
  · obtain ⟨g, o, cap, rfl, hlt, hc, hnd⟩ := h.at (j := 0) (p := p) rfl
    have HC : Hid (Calls Tryz.prog 35 #[p.1] w fun e w6 => ∃ v', e = .returned v' ∧ NdOwn w6 w.heap.size v' p.2 ∧ Below w.heap.size w w6) := cloneN_any p.1 p.2 w hnd (by simpa [kidL] using hT)
    obtain ⟨p1, p2⟩ := p
    obtain ⟨pa, pc, e1⟩ : ∃ pa pc, p1 = .slice pa p2.length pc := hnd.form
    subst e1
    clear h hnd hT h1 hK
    have c0 : w.cell? ⟨g, o, none⟩ = some (.slice pa p2.length pc) := hc
    clear hc
    go_enter Tryz.func17, Tryz.ntmps17
    go_wp2_with fail
    refine Calls.mono HC.out ?_
    rintro e w1 ⟨v', rfl, h2, h3⟩
    have H2 : Hid (NdOwn w1 w.heap.size v' p2 ∧ Below w.heap.size w w1) := ⟨h2, h3⟩
    clear h2 h3 HC
    go_wp2_with fail
    go_ret
    exact ⟨v', rfl, H2.out.1.at, H2.out.2⟩
  · refine (seq_many v (p :: q :: K) w h (by simp) hK hT).mono ?_
    rintro e w' ⟨v', a1, a2, a3⟩
    exact ⟨v', a1, a2.at, a3⟩
theorem i64_and15 (n : Int) : bits .and .i64 n 15 = n % 16 := by
  have h1 : (BitVec.ofInt 64 15).toNat = 2 ^ 4 - 1 := by decide
  have key : (BitVec.ofInt 64 n &&& BitVec.ofInt 64 15).toNat = (n % ((2 ^ 64 : Nat) : Int)).toNat % 2 ^ 4 := by
    rw [BitVec.toNat_and, BitVec.toNat_ofInt, h1, Nat.and_two_pow_sub_one_eq_mod]
  show IntKind.i64.wrap ((BitVec.ofInt 64 n &&& BitVec.ofInt 64 15).toNat : Nat) = n % 16
  rw [key, IntKind.wrap_i64]
  omega
end Go.Proofs.YtfafhjglcaikoaaGreatDoor
