/- Split. -/
import Derived.Test.YtfafhjglcaikoaaGreatDoorG5
import Derived.Test.YtfafhjglcaikoaaGreatDoorG1
import Derived.Test.YtfafhjglcaikoaaGreatDoorG14
namespace Go.Proofs.YtfafhjglcaikoaaGreatDoor
open Go.RowKit Go.Shelf
attribute [local go_sem] Oper.semAt_some

theorem bytes_eq (s : ByteArray) : s = ⟨s.data.toList.toArray⟩ := by cases s; simp
theorem one_of_size (s : ByteArray) : one s.data.toList = if s.size = 0 then [] else [s.data.toList] := by
  unfold one
  have : s.data.toList.length = s.size := by simp
  by_cases h : s.size = 0
  · rw [if_pos h, if_pos (List.eq_nil_of_length_eq_zero (by omega))]
  · rw [if_neg h, if_neg (fun e => h (by rw [← this, e]; rfl))]

set_option maxRecDepth 100000 in
set_option maxHeartbeats 1000000 in
theorem addPart_any (B : Nat) (v : Value) (ps : List (List UInt8)) (s : ByteArray) (w : World) (hown : w.ownsRow B 9 1 v ps.length (txV ps)) (hB : B ≤ w.heap.size) (hn : ps.length < 4294967296) :
    Calls Tryz.prog 281 #[v, .string s] w fun e w' => ∃ v', e = .returned v' ∧ w'.ownsRow B 9 1 v' (ps ++ one s.data.toList).length (txV (ps ++ one s.data.toList)) ∧ Below B w w' ∧ KeepsOthers w w' := by
  obtain ⟨i0, hi, hz0, hz1, hz2⟩ := info_parts info9
  rw [one_of_size]
  by_cases h0 : s.size = 0
  · have hs : s = ⟨#[]⟩ := by
      have h1 : s.data.toList = [] := List.eq_nil_of_length_eq_zero (by rw [Array.length_toList]; exact h0)
      rw [bytes_eq s, h1]
    subst hs
    have he : (⟨#[]⟩ : ByteArray).toList.isEmpty = true := by rw [Lib.toList_data]; rfl
    go_enter Tryz.func281, Tryz.ntmps281
    go_wp2
    go_ret
    exact ⟨v, rfl, by simpa using hown, Below.refl _ _, KeepsOthers.refl _⟩
  · have he : s.toList.isEmpty = false := by
      rw [Lib.toList_data]
      cases h : s.data.toList with
      | nil => exact absurd (show s.size = 0 by have h2 : s.data.toList.length = s.size := by simp
                                                rw [← h2, h]; rfl) h0
      | cons _ _ => rfl
    go_enter Tryz.func281, Tryz.ntmps281
    go_wp2_with (at_builtin; refine wpList_append_own _ rfl _ _ 23 rfl B 9 i0 (.string ⟨#[]⟩) 1 16 Tryz.underlying23 hi hz0 hz1 hz2 rfl (by decide) _ _ _ rfl (hown.alloc _) ⟨w.heap.size, 0, none⟩ 1 1 [.string s] rfl rfl (cells_new _ [.string s] _) (by simp [Value.oneCell']) (by have := maxLen_big; omega) (by omega) (by simp; omega) ?_; intro v' w2 hown' hgrow _)
    go_ret
    have hgrow2 : (w.alloc (.cells #[.string s] 9)).grownBy w2 v.ownBlock := hgrow
    refine ⟨v', rfl, ?_, ?_, ?_⟩
    · have e1 : txV (ps ++ [s.data.toList]) = txV ps ++ [.string s] := by
        simp only [txV, List.map_append, List.map_cons, List.map_nil]
      rw [e1]
      exact hown'
    · refine ((Below.refl B w).alloc hB _).grown hgrow2 (by simp; omega) fun q ej => ?_
      rcases hown.2 with ⟨rfl, _⟩ | ⟨g, cap, cur, rfl, hb, _, _⟩
      · simp [Value.ownBlock] at ej
      · obtain rfl : g = q := by simpa [Value.ownBlock] using ej
        exact hb
    · refine (KeepsOthers.alloc w _).trans (KeepsOthers.of_grownBy hgrow2 fun q o ej hj => ?_)
      rcases (hown.alloc (.cells #[.string s] 9)).2 with ⟨rfl, _⟩ | ⟨g, cap, cur, rfl, _, hgb, _⟩
      · simp [Value.ownBlock] at ej
      · obtain rfl : g = q := by simpa [Value.ownBlock] using ej
        rw [hgb] at hj; cases hj; rfl

/-- A piece of code that is left in no way but off its end. -/
def onlyN (K : Act → World → Prop) : Exit → Act → World → Prop
  | .normal, a, w => K a w
  | _, _, _ => False
theorem wpIn_only {F : Fence} {n : Nat} {P : Program} {c : Code} {Q : Exit → Act → World → Prop} {a : Act} {w : World} (h : c.wpIn F n P (onlyN (Q .normal)) a w) : c.wpIn F n P Q a w :=
  wpIn_mono h (fun e a w h => by cases e <;> first | exact h | exact h.elim)
theorem owns_base {W : World} {B B' e size k : Nat} {v : Value} {xs : List Value} (h : W.ownsRow B e size v k xs) (hB : B' ≤ B) : W.ownsRow B' e size v k xs := by
  refine ⟨h.1, ?_⟩
  rcases h.2 with h2 | ⟨g, cap, cur, h3, h4, h5⟩
  · exact .inl h2
  · exact .inr ⟨g, cap, cur, h3, by omega, h5⟩
set_option maxRecDepth 100000 in
set_option maxHeartbeats 4000000 in
theorem split_in (n : Nat) (hn : 3 ≤ n) (s : ByteArray) (hs : s.size < 4294967296) (w : World) :
    CallsIn Fence.wide n Tryz.prog 244 #[.string s] w fun e w' => ∃ v, e = .returned v ∧ w'.ownsRow w.heap.size 9 1 v (splitL s.data.toList).length (txV (splitL s.data.toList)) ∧ Below w.heap.size w w' := by
  have h1 : 1 ≤ n := by omega
  obtain ⟨SP, hSP⟩ : ∃ SP, splitL s.data.toList = SP := ⟨_, rfl⟩
  rw [hSP]
  have HSP : Hid _ := hSP
  clear hSP
  refine callsIn_of_wp_marks Tryz.func244 rfl trivial ?_ rfl
  simp only [Tryz.ntmps244, List.size_toArray, List.length_cons, List.length_nil, Nat.reduceAdd, Nat.reduceSub, Array.replicate_succ, Array.replicate_zero, List.push_toArray, List.append_toArray, List.nil_append, List.cons_append]
  gi_wp2
  refine ⟨trivial, ?_⟩
  refine (callsIn_wide.2 (letters_any _ _)).mono ?_
  rintro e w1 ⟨rfl, rfl⟩
  gi_wp2
  have c0 := Cel.new w 9 #[.string s]
  have c1 := Cel.new (w.alloc (.cells #[.string s] 9)) 23 #[.slice none 0 0]
  have c2 := Cel.new ((w.alloc (.cells #[.string s] 9)).alloc (.cells #[.slice none 0 0] 23)) 3 #[.int .i64 0]
  have c3 := Cel.new (((w.alloc (.cells #[.string s] 9)).alloc (.cells #[.slice none 0 0] 23)).alloc (.cells #[.int .i64 0] 3)) 9 #[.string s]
  rw [World.size_alloc] at c1
  rw [World.size_alloc, World.size_alloc] at c2
  rw [World.size_alloc, World.size_alloc, World.size_alloc] at c3
  have hB0 : Below w.heap.size w ((((w.alloc (.cells #[.string s] 9)).alloc (.cells #[.slice none 0 0] 23)).alloc (.cells #[.int .i64 0] 3)).alloc (.cells #[.string s] 9)) := ((((Below.refl _ w).alloc (Nat.le_refl _) _).alloc (by simp) _).alloc (by simp; omega) _).alloc (by simp; omega) _
  refine wpIn_range_each (b := w.heap.size + 1 + 1 + 1) rfl h1 (gf := 297) (lb := #[.pointer (some ⟨w.heap.size + 1 + 1 + 1, 0, none⟩)]) (by first | rfl | simp [Act.eval]) trivial (enters_of Tryz.func297 (by kernel_rfl) rfl)
    (letters_each (n - 1) (by omega) (w.heap.size + 1 + 1 + 1) s (by omega) _ (c3.cell 0)) (by simp) (Below.refl _ _) (fun _ => rfl)
    (fun k W => ∃ (ps : List (List UInt8)) (f i : Nat) (v : Value), Hid ((placed 0 s.data.toList).drop k = placed i (s.data.toList.drop i)) ∧ f ≤ i ∧ i ≤ s.size ∧ Hid (SP = ps ++ splitR ((s.data.toList.take i).drop f) (chunks (s.data.toList.drop i))) ∧ ps.length ≤ i ∧
      Cel W w.heap.size 9 #[.string s] ∧ Cel W (w.heap.size + 1) 23 #[v] ∧ Cel W (w.heap.size + 1 + 1) 3 #[.int .i64 f] ∧ Cel W (w.heap.size + 1 + 1 + 1) 9 #[.string s] ∧ W.ownsRow (w.heap.size + 1 + 1 + 1 + 1) 9 1 v ps.length (txV ps) ∧ Below w.heap.size w W ∧ w.heap.size + 1 + 1 + 1 + 1 ≤ W.heap.size)
    ?own ⟨[], 0, 0, _, by simp [Hid], Nat.le_refl _, by omega, by unfold Hid; rw [← HSP.out]; simp [splitL], Nat.le_refl _, ((c0.alloc _).alloc _).alloc _, (c1.alloc _).alloc _, c2.alloc _, c3, World.ownsRow_nil _ _ _ _, hB0, by simp⟩
    (fun x a' W => ∃ Bx, w.heap.size + 1 + 1 + 1 < Bx ∧ Cel W Bx 319 #[.int .u8 x.2.1.toNat, .bool x.2.2] ∧ a' = { tmps := #[.string s, .pointer (some ⟨w.heap.size, 0, none⟩), .slice none 0 0, .pointer (some ⟨w.heap.size + 1, 0, none⟩), .pointer (some ⟨w.heap.size + 1 + 1, 0, none⟩), .int .i64 x.1, .pointer (some ⟨Bx, 0, none⟩), .string s, .func (.func 297) #[] #[.pointer (some ⟨w.heap.size + 1 + 1 + 1, 0, none⟩)], .int .i64 x.1, ltV x.2, undef, undef, undef, undef, undef, undef, undef, undef, undef, undef, undef, undef, undef, undef, undef, undef, undef, undef, undef, undef], defers := [] })
    ?axown ?assign ?body ?done
  case own =>
    rintro k X Y row ⟨ps, f, i, v, p1, p2, p3, p4, p5, a0, a1, a2, a3, ho, a5, a6⟩ hg hr
    have hr' : ∀ r, row = some r → ∃ o : Obj, X.heap[r]? = some o ∧ o.isCells = false := fun r e => (hr r e).2
    exact ⟨ps, f, i, v, p1, p2, p3, p4, p5, a0.own hg hr', a1.own hg hr', a2.own hg hr', a3.own hg hr', owns_own ho hg hr', a5.grown hg a5.size (fun q e => by have := (hr q e).1; simp at this; omega), Nat.le_trans a6 hg.size⟩
  case axown =>
    rintro x a' _ X Y row ⟨Bx, h2, h3, h4⟩ hg hr
    exact ⟨Bx, h2, h3.own hg (fun r e => (hr r e).2), h4⟩
  case assign =>
    rintro l k x W K hx ⟨ps, f, i, v, p1, p2, p3, p4, p5, a0, a1, a2, a3, ho, a5, a6⟩ hK
    gi_wp2
    exact hK _ _ ((KeepsOthers.alloc _ _).from _) (Below.heap_alloc _ _ _ a3.lt) ⟨ps, f, i, v, p1, p2, p3, p4, p5, a0.alloc _, a1.alloc _, a2.alloc _, a3.alloc _, ho.alloc _, a5.alloc a5.size _, by simp; omega⟩ ⟨W.heap.size, a3.lt, Cel.new W 319 _, rfl⟩
  case body =>
    rintro l k ⟨at_, c, a⟩ a' W hx ⟨ps, f, i, v, p1, p2, p3, p4, p5, a0, a1, a2, a3, ho, a5, a6⟩ ⟨Bx, b1, b2, rfl⟩
    have hne : s.data.toList.drop i ≠ [] := by
      intro h
      have h2 := p1.out
      rw [h, placed_nil] at h2
      have := List.drop_eq_nil_iff.1 h2
      have := (List.getElem?_eq_some_iff.1 hx).1
      omega
    have st := p1.out
    rw [placed_step i _ hne, List.drop_drop] at st
    have hx2 : some (at_, c, a) = some (i, headL (s.data.toList.drop i)) := by
      rw [← hx]
      have := congrArg (fun l => l[0]?) st
      simpa [List.getElem?_drop] using this
    simp only [Option.some.injEq, Prod.mk.injEq] at hx2
    obtain ⟨rfl, hh⟩ := hx2
    have hnext : Hid ((placed 0 s.data.toList).drop (k + 1) = placed (at_ + headW (s.data.toList.drop at_)) (s.data.toList.drop (at_ + headW (s.data.toList.drop at_)))) := by
      have := congrArg List.tail st
      unfold Hid
      simpa using this
    have hch := chunks_step _ hne
    rw [← hh, List.drop_drop] at hch
    have hwl := headW_le _ hne
    have hwp := headW_pos (s.data.toList.drop at_)
    have hil : at_ < s.size := by
      have h3 : (s.data.toList.drop at_).length ≠ 0 := fun e => hne (List.eq_nil_of_length_eq_zero e)
      simp at h3; omega
    have hwl' : at_ + headW (s.data.toList.drop at_) ≤ s.size := by simp at hwl; omega
    have hacc : ((s.data.toList.take at_).drop f) ++ (s.data.toList.drop at_).take (headW (s.data.toList.drop at_)) = (s.data.toList.take (at_ + headW (s.data.toList.drop at_))).drop f := by
      rw [List.take_add, List.drop_append_of_le_length (by simp; omega)]
    have p4' := p4.out
    rw [hch] at p4'
    simp only [splitR] at p4'
    have HH : Hid _ := hh
    clear st hch hx hne hh p1 p4
    have d1 : W.cell? ⟨Bx, 0, none⟩ = some (.int .u8 c.toNat) := b2.cell 0
    have d2 : W.cell? ⟨Bx, 1, none⟩ = some (.bool a) := b2.cell 1
    have e0 : W.cell? ⟨w.heap.size, 0, none⟩ = some (.string s) := a0.cell 0
    have e1 : W.cell? ⟨w.heap.size + 1, 0, none⟩ = some v := a1.cell 0
    have e2 : W.cell? ⟨w.heap.size + 1 + 1, 0, none⟩ = some (.int .i64 f) := a2.cell 0
    have HACC : Hid _ := hacc
    have HP4 : Hid _ := p4'
    clear hacc p4'
    cases a
    · gi_wp2
      refine ⟨trivial, ?_⟩
      gi_wp2
      refine ⟨KeepsFrom.refl _ _, rfl, ps, f, at_ + headW (s.data.toList.drop at_), v, hnext, by omega, hwl', ?_, by omega, a0, a1, a2, a3, ho, a5, a6⟩
      have := HP4.out
      unfold Hid
      rw [← HACC.out]
      simpa using this
    · cases hb : blankC c
      · gi_wp2
        refine ⟨trivial, fun _ => by omega, ?_⟩
        refine (CallsIn.inRound l (callsIn_wide.2 (blank_any c _))).mono ?_
        rintro e W2 ⟨rfl, hw2⟩
        obtain rfl := hw2.symm
        rw [hb]
        gi_wp2
        refine ⟨KeepsFrom.refl _ _, rfl, ps, f, at_ + headW (s.data.toList.drop at_), v, hnext, by omega, hwl', ?_, by omega, a0, a1, a2, a3, ho, a5, a6⟩
        have := HP4.out
        unfold Hid
        rw [← HACC.out]
        simpa [hb] using this
      · gi_wp2
        refine ⟨trivial, fun _ => by omega, ?_⟩
        refine (CallsIn.inRound l (callsIn_wide.2 (blank_any c _))).mono ?_
        rintro e W2 ⟨rfl, hw2⟩
        obtain rfl := hw2.symm
        rw [hb]
        have hos : W.drew.ownsRow (w.heap.size + 1 + 1 + 1 + 1) 9 1 v ps.length (txV ps) := ho
        have a1d : Cel W.drew (w.heap.size + 1) 23 #[v] := a1
        have a2d : Cel W.drew (w.heap.size + 1 + 1) 3 #[.int .i64 f] := a2
        obtain ⟨PS2, hPS2⟩ : ∃ PS2, ps ++ one (s.extract f at_).data.toList = PS2 := ⟨_, rfl⟩
        have hext : (s.extract f at_).data.toList = (s.data.toList.take at_).drop f := by rw [Lib.extract_data, List.drop_take]
        have hlen2 : PS2.length ≤ at_ + 1 := by
          rw [← hPS2, List.length_append]
          have : (one (s.extract f at_).data.toList).length ≤ 1 := by unfold one; split <;> simp
          omega
        have hw1 : headW (s.data.toList.drop at_) = 1 := headW_alive _ (by rw [← HH.out])
        rw [hw1] at hnext
        have HSPN : Hid (SP = PS2 ++ splitR ((s.data.toList.take (at_ + 1)).drop (at_ + 1)) (chunks (s.data.toList.drop (at_ + 1)))) := by
          have h5 := HP4.out
          rw [hw1] at h5
          unfold Hid
          rw [List.drop_eq_nil_of_le (by simp; omega : (s.data.toList.take (at_ + 1)).length ≤ at_ + 1), ← hPS2, hext]
          simpa [hb] using h5
        have HPS : Hid _ := hPS2
        have a0d : Cel W.drew w.heap.size 9 #[.string s] := a0
        have a3d : Cel W.drew (w.heap.size + 1 + 1 + 1) 9 #[.string s] := a3
        have a5d : Below w.heap.size w W.drew := a5.drew
        clear hPS2 hext hw1 HP4 HACC hwl hwl' hwp
        have mixed : Tryz.prog.follows Departure.mixedOrders = true := by kernel_rfl
        obtain ⟨ad, cap, rfl⟩ := owns_slice ho
        gi_wp2
        gi_region_with_o (refine ⟨trivial, fun _ => by omega, ?_⟩; gi_at_call 281; refine (CallsIn.inRound l (callsIn_wide.2 (addPart_any (w.heap.size + 1 + 1 + 1 + 1) _ ps _ _ hos a6 (by omega)))).mono ?_; rintro e W2 ⟨v', rfl, ho2, hb2, hk2⟩; rw [HPS.out] at ho2; obtain ⟨ad2, cap2, rfl⟩ := owns_slice ho2; have q1 := a1d.below hb2 (by omega); have q2 := a2d.below hb2 (by omega); have q3 := q1.cell 0; have q4 := q1.frozen 0; have q5 := q2.cell 0; have q6 := q2.frozen 0)
        all_goals gi_wp2
        all_goals
          refine ⟨((KeepsOthers.drew _).trans (hk2.trans ((KeepsOthers.setCell _ _ _).trans (KeepsOthers.setCell _ _ _)))).from _, ((((a3d.below hb2 (by omega)).other (by omega) _).other (by omega) _).trans a3.symm),
            PS2, at_ + 1, at_ + 1, .slice ad2 PS2.length cap2, hnext, Nat.le_refl _, hil, HSPN, hlen2, ((a0d.below hb2 (by omega)).other (by omega) _).other (by omega) _, (q1.set _).other (by omega) _, ((q2.other (by omega) _).set _), ((a3d.below hb2 (by omega)).other (by omega) _).other (by omega) _, ?_, ((a5d.trans (hb2.mono (by omega))).setCell (p := ⟨w.heap.size + 1, 0, none⟩) (by simp) _).setCell (p := ⟨w.heap.size + 1 + 1, 0, none⟩) (by simp; omega) _, by have := hb2.size; simp at this ⊢; omega⟩
          exact owns_set (owns_set ho2 q1 (by decide) 0 _) (q2.other (by omega) _) (by decide) 0 _
  case done =>
    rintro D W hD ⟨ps, f, i, v, p1, p2, p3, p4, p5, a0, a1, a2, a3, ho, a5, a6⟩ hK
    have hi0 : s.data.toList.drop i = [] := by
      have h2 := p1.out
      rw [List.drop_length] at h2
      cases h : s.data.toList.drop i with
      | nil => rfl
      | cons x r => rw [h, placed_step i _ (by simp)] at h2; cases h2
    have hi : i = s.size := by have := List.drop_eq_nil_iff.1 hi0; simp at this; omega
    have HSPN : Hid (ps ++ one (s.extract f s.size).data.toList = SP) := by
      have h4 := p4.out
      rw [hi0, hi, List.take_of_length_le (by simp)] at h4
      unfold Hid
      rw [h4, Lib.extract_data, List.take_of_length_le (by simp)]
      simp [chunks, splitR]
    clear p1 p4 hi0
    subst hi
    have e0 : W.cell? ⟨w.heap.size, 0, none⟩ = some (.string s) := a0.cell 0
    have e1 : W.cell? ⟨w.heap.size + 1, 0, none⟩ = some v := a1.cell 0
    have e2 : W.cell? ⟨w.heap.size + 1 + 1, 0, none⟩ = some (.int .i64 f) := a2.cell 0
    have hos : W.drew.ownsRow (w.heap.size + 1 + 1 + 1 + 1) 9 1 v ps.length (txV ps) := ho
    have mixed : Tryz.prog.follows Departure.mixedOrders = true := by kernel_rfl
    have hDd : W.drew.heap[D]? = some (.deferred (some [])) := hK
    have a5d : Below w.heap.size w W.drew := a5.drew
    obtain ⟨ad, cap, rfl⟩ := owns_slice ho
    gi_wp2
    refine wpIn_only ?_
    gi_region_with_o (refine ⟨trivial, ?_⟩; gi_at_call 281; refine (callsIn_wide.2 (addPart_any (w.heap.size + 1 + 1 + 1 + 1) _ ps _ _ hos a6 (by omega))).mono ?_; rintro e W2 ⟨v', rfl, ho2, hb2, hk2⟩; rw [HSPN.out] at ho2)
    all_goals simp only [onlyN]
    all_goals gi_wp2
    all_goals
      have g1 := hk2.same D _ hDd rfl
      refine ⟨by simp, .inl ⟨_, _, rfl, run_takeDeferred g1, ?_⟩⟩
      refine ⟨_, results_tmp rfl _ _ _, v', rfl, ?_, (a5d.trans (hb2.mono (by omega))).trans (belowK_b (w := w) (Nat.le_refl _) W2 D _ _ (by simp at hD; omega) g1 rfl rfl)⟩
      exact owns_base (ownsRow_putObj ho2 _ g1 rfl) (by omega)

theorem split_any (s : ByteArray) (hs : s.size < 4294967296) (w : World) :
    Calls Tryz.prog 244 #[.string s] w fun e w' => ∃ v, e = .returned v ∧ w'.ownsRow w.heap.size 9 1 v (splitL s.data.toList).length (txV (splitL s.data.toList)) ∧ Below w.heap.size w w' := callsIn_wide.1 (split_in 3 (Nat.le_refl _) s hs w)
end Go.Proofs.YtfafhjglcaikoaaGreatDoor
