/- The places of a node's children, one by one. -/
import Derived.Test.YtfakelaibijgkaaDoorMax
import Derived.RangeFuncNested
import Derived.RangeFuncLeaves
import Derived.RangeFuncCalls
import Derived.RangeFuncBound
import Derived.Sort.QuietIn
import Derived.OwnWalkIn
import Derived.TacticsInMore
import Derived.LoopNIn
import Derived.LoopIn
namespace Go.Proofs.YtfakelaibijgkaaDoor
open Go.RowKit
attribute [local go_sem] Oper.semAt_some

/-- The places of children, from the k-th on that begins at a place. -/
def plG (X : List Nd) (K fin : Int) : Nat → Nat → Nat → List Nat
  | 0, _, _ => []
  | f + 1, k, at_ =>
    if (k : Int) < K then
      if fin ≤ at_ then []
      else match X[at_]? with
        | none => []
        | some y => if y.size < 1 ∨ fin - at_ < y.size then [] else at_ :: plG X K fin f (k + 1) (at_ + y.size.toNat)
    else []
def finOf (X : List Nd) (i : Nat) (x : Nd) : Int := (i : Int) + min x.size ((X.length : Int) - i)
def kidPl (X : List Nd) (i : Nat) : List Nat := match X[i]? with
  | none => []
  | some x => plG X x.k (finOf X i x) (X.length + 1) 0 (i + 1)
theorem kidPlaces_any (ad : Option Addr) (m cap : Nat) (i : Int) (w : World) : Calls Tryd.prog 49 #[.slice ad m cap, .int .i64 i] w fun e w' => e = .returned (.func (.func 61) #[] #[.pointer (some ⟨w.heap.size + 1, 0, none⟩), .pointer (some ⟨w.heap.size, 0, none⟩)]) ∧ w' = (w.alloc (.cells #[.slice ad m cap] 22)).alloc (.cells #[.int .i64 i] 3) := by
  go_enter Tryd.func49, Tryd.ntmps49
  go_wp2_with fail
  go_ret
  exact ⟨rfl, rfl⟩
theorem plG_stop (X : List Nd) (K fin : Int) (f k at_ : Nat) (h : ¬ (k : Int) < K ∨ fin ≤ at_ ∨ ∃ y, X[at_]? = some y ∧ (y.size < 1 ∨ fin - at_ < y.size)) : plG X K fin f k at_ = [] := by
  cases f with
  | zero => rfl
  | succ f =>
    unfold plG
    split
    · split
      · rfl
      · rename_i h1 h2
        rcases h with h | h | ⟨y, hy, h⟩
        · exact absurd h1 h
        · exact absurd h h2
        · rw [hy]
          simp only [if_pos h]
    · rfl
theorem plG_more (X : List Nd) (K fin : Int) (f k at_ : Nat) (y : Nd) (h1 : (k : Int) < K) (h2 : ¬ fin ≤ at_) (hy : X[at_]? = some y) (h3 : ¬ (y.size < 1 ∨ fin - at_ < y.size)) : plG X K fin (f + 1) k at_ = at_ :: plG X K fin f (k + 1) (at_ + y.size.toNat) := by
  rw [plG, if_pos h1, if_neg h2, hy]
  simp only [if_neg h3]
theorem kidPl_eq (X : List Nd) (i : Nat) (x : Nd) (h : X[i]? = some x) : kidPl X i = plG X x.k (finOf X i x) (X.length + 1) 0 (i + 1) := by
  unfold kidPl
  rw [h]
set_option maxRecDepth 100000 in
set_option maxHeartbeats 2000000 in
theorem places_in (n : Nat) (hn : 1 ≤ n) (l bi bl : Nat) (X : List Nd) (i : Nat) (x : Nd) (g o cap : Nat) (hx : X[i]? = some x) (hl : X.length < 4294967296) (hs0 : -9223372036854775808 ≤ x.size) (hK : x.k ≤ 9223372036854775807) (J : Nat → World → Prop)
    (hJc : ∀ k A, J k A → A.cell? ⟨bi, 0, none⟩ = some (.int .i64 i) ∧ A.cell? ⟨bl, 0, none⟩ = some (.slice (some ⟨g, o, none⟩) X.length cap) ∧ NdAt A (.slice (some ⟨g, o, none⟩) X.length cap) X)
    (hJd : ∀ k A m, J k A → J k (A.drewN m))
    (hY : ∀ k p W1, (kidPl X i)[k]? = some p → J k W1 → YieldAt Fence.wide (n - 1) Tryd.prog l #[.int .i64 (p : Nat)] W1 fun e W' => e = .returned (.bool true) ∧ J (k + 1) W')
    (W : World) (h0 : J 0 W) :
    CallsIn Fence.wide n Tryd.prog 61 #[.func (.yield l) #[] #[], .pointer (some ⟨bi, 0, none⟩), .pointer (some ⟨bl, 0, none⟩)] W fun e W' => (∃ v, e = .returned v) ∧ J (kidPl X i).length W' := by
  have hil : i < X.length := (List.getElem?_eq_some_iff.1 hx).1
  obtain ⟨ci, cl, hN⟩ := hJc 0 W h0
  obtain ⟨g', o', cap', hv, hg, c0, c1, c2, c3, c4⟩ := hN.at hx
  cases hv
  obtain ⟨kd, nn, K, sz, s⟩ := x
  simp only at c2 c3 hs0 hK
  obtain ⟨fin, hfin⟩ : ∃ fin : Int, finOf X i ⟨kd, nn, K, sz, s⟩ = fin := ⟨_, rfl⟩
  have hkp := kidPl_eq X i _ hx
  rw [hfin] at hkp
  have hfl : fin ≤ X.length := by rw [← hfin]; unfold finOf; simp only; omega
  have hfx : (if (X.length : Int) - (i : Int) < sz then (X.length : Int) - (i : Int) else sz) + (i : Int) = fin := by rw [← hfin]; unfold finOf; simp only; split <;> omega
  have HKP : Hid (kidPl X i = plG X K fin (X.length + 1) 0 (i + 1)) := hkp
  have HFX : Hid ((if (X.length : Int) - (i : Int) < sz then (X.length : Int) - (i : Int) else sz) + (i : Int) = fin) := hfx
  have HJC : Hid (∀ k A, J k A → A.cell? ⟨bi, 0, none⟩ = some (.int .i64 i) ∧ A.cell? ⟨bl, 0, none⟩ = some (.slice (some ⟨g, o, none⟩) X.length cap) ∧ NdAt A (.slice (some ⟨g, o, none⟩) X.length cap) X) := hJc
  have HJD : Hid (∀ k A m, J k A → J k (A.drewN m)) := hJd
  have HY : Hid (∀ k p W1, (kidPl X i)[k]? = some p → J k W1 → YieldAt Fence.wide (n - 1) Tryd.prog l #[.int .i64 (p : Nat)] W1 fun e W' => e = .returned (.bool true) ∧ J (k + 1) W') := hY
  have HJ0 : Hid (J 0 W) := h0
  clear hkp hfx hfin hJc hJd hY h0 hx
  clear c0 c1 c4 hN
  have hil' : (i : Int) < (X.length : Int) := by omega
  have hil2 : ¬ (X.length : Int) ≤ (i : Int) := by omega
  refine callsIn_of_wp Tryd.func61 rfl trivial ?_ rfl
  simp only [Tryd.ntmps61, List.size_toArray, List.length_cons, List.length_nil, Nat.reduceAdd, Nat.reduceSub, Array.replicate_succ, Array.replicate_zero, List.push_toArray, List.append_toArray, List.nil_append, List.cons_append]
  by_cases hmn : (X.length : Int) - (i : Int) < sz
  all_goals
    gi_wp2
    gi_quiet (fail)
    gi_wp2
    first | rw [show (i : Int) + ((X.length : Int) - (i : Int)) = fin by have := HFX.out; rw [if_pos hmn] at this; omega] | rw [show (X.length : Int) = fin by have := HFX.out; rw [if_pos hmn] at this; omega] | rw [show (i : Int) + sz = fin by have := HFX.out; rw [if_neg (by omega)] at this; omega]
    clear ci cl c2 c3 hmn
    have HJ1 : Hid (J 0 (W.drewN nq)) := HJD.out _ _ _ HJ0.out
    gi_loopw [5, 29] (fun v5 v29 wr => ∃ (k at_ f : Nat), v5 = .int .i64 at_ ∧ v29 = .int .i64 k ∧ i < at_ ∧ k ≤ at_ ∧ at_ ≤ X.length + 1 ∧ X.length < f + at_ ∧ Hid (k ≤ (kidPl X i).length ∧ (kidPl X i).drop k = plG X K fin f k at_) ∧ Hid (J k wr)) (fun v5 _ _ => X.length + 1 - (intOf v5).toNat)
    case atStart => exact ⟨0, i + 1, X.length + 1, by simp, rfl, by omega, by omega, by omega, by omega, ⟨Nat.zero_le _, by rw [List.drop_zero]; exact HKP.out⟩, HJ1.out⟩
    case round =>
      obtain ⟨k, at_, f, rfl, rfl, hia, hka, hax, hff, HD, HJ⟩ := hrel
      have stop : Hid ((¬ (k : Int) < K ∨ fin ≤ at_ ∨ ∃ y, X[at_]? = some y ∧ (y.size < 1 ∨ fin - at_ < y.size)) → J (kidPl X i).length wr) := fun h => by
        have h1 := HD.out.2
        rw [plG_stop X K fin f k at_ h] at h1
        have h2 := List.drop_eq_nil_iff.1 h1
        rw [show (kidPl X i).length = k by have := HD.out.1; omega]
        exact HJ.out
      obtain ⟨ci, cl, hN⟩ := HJC.out k wr HJ.out
      by_cases hk : (k : Int) < K
      · by_cases hge : fin ≤ (at_ : Int)
        · gi_wp2
          refine ⟨fun _ h => (by cases h), ?_⟩
          gi_wp2
          refine bodyPost_ret (results_none rfl _ _ _) rfl ?_
          exact ⟨⟨_, rfl⟩, stop.out (Or.inr (Or.inl hge))⟩
        · have hlt2 : at_ < X.length := by omega
          have hlt3 : (at_ : Int) < (X.length : Int) := by omega
          obtain ⟨y, hy⟩ : ∃ y, X[at_]? = some y := ⟨_, List.getElem?_eq_getElem hlt2⟩
          obtain ⟨g', o', cap', hv, hg', d0, d1, d2, d3, d4⟩ := hN.at hy
          cases hv
          have HYY : Hid (X[at_]? = some y) := hy
          obtain ⟨ykd, yn, yk, ysz, ys⟩ := y
          simp only at d3
          clear hN hy d0 d1 d2 d4
          by_cases hs1 : ysz < 1
          · gi_wp2
            refine ⟨fun _ h => (by cases h), ?_⟩
            gi_wp2
            refine bodyPost_ret (results_none rfl _ _ _) rfl ?_
            exact ⟨⟨_, rfl⟩, stop.out (Or.inr (Or.inr ⟨_, HYY.out, Or.inl hs1⟩))⟩
          · by_cases hs2 : fin - (at_ : Int) < ysz
            · gi_wp2
              refine ⟨fun _ h => (by cases h), ?_⟩
              gi_wp2
              refine bodyPost_ret (results_none rfl _ _ _) rfl ?_
              exact ⟨⟨_, rfl⟩, stop.out (Or.inr (Or.inr ⟨_, HYY.out, Or.inr hs2⟩))⟩
            · obtain ⟨f', rfl⟩ : ∃ f', f = f' + 1 := ⟨f - 1, by omega⟩
              have hmore := plG_more X K fin f' k at_ ⟨ykd, yn, yk, ysz, ys⟩ hk hge HYY.out (by simp only; omega)
              have hdr := HD.out.2
              rw [hmore] at hdr
              have hget : (kidPl X i)[k]? = some at_ := by
                have := congrArg (fun l => l[0]?) hdr
                simpa [List.getElem?_drop] using this
              have HD2 : Hid (k + 1 ≤ (kidPl X i).length ∧ (kidPl X i).drop (k + 1) = plG X K fin f' (k + 1) (at_ + ysz.toNat)) := by
                refine ⟨(List.getElem?_eq_some_iff.1 hget).1, ?_⟩
                have := congrArg List.tail hdr
                simpa using this
              obtain ⟨m, hm⟩ : ∃ m : Nat, ysz = m := ⟨ysz.toNat, by omega⟩
              subst hm
              rw [Int.toNat_natCast] at HD2
              have hm1 : 1 ≤ m := by omega
              have hm2 : (at_ : Int) + m ≤ fin := by omega
              obtain ⟨fn, tmps, assign, body, hyl, hR⟩ := HY.out k at_ wr hget HJ.out
              clear hmore hdr hget
              gi_wp2
              refine hR.mono ?_
              rintro e W3 ⟨rfl, hj3⟩
              obtain ⟨ci3, cl3, hN3⟩ := HJC.out (k + 1) W3 hj3
              obtain ⟨g3, o3, cap3, hv3, hg3, d0, d1, d2, d33, d4⟩ := hN3.at HYY.out
              cases hv3
              simp only at d33
              clear ci cl d3 hN3 d0 d1 d2 d4 hyl hR
              gi_wp2
              go_roundw
              case rel => exact ⟨k + 1, at_ + m, f', by simp, by simp, by omega, by omega, by omega, by omega, HD2.out, hj3⟩
              case measure => simp [intOf]; omega
      · gi_wp2
        go_end0
        exact ⟨⟨_, rfl⟩, stop.out (Or.inl hk)⟩
end Go.Proofs.YtfakelaibijgkaaDoor
