/- Escape, Closed, Plain. -/
import Derived.Test.YtdajacodfnidfaaGreatDoorBuild
import Derived.Test.YtdajacodfnidfaaGreatDoorPlain2
namespace Go.Proofs.YtdajacodfnidfaaGreatDoor
open Go.RowKit Go.Shelf
attribute [local go_sem] Oper.semAt_some

theorem escL_snoc (l : List UInt8) (c : UInt8) : escL (l ++ [c]) = escL l ++ (if specialC c then [92, c] else [c]) := by simp [escL]
theorem escL_length : ∀ l : List UInt8, (escL l).length ≤ 2 * l.length
  | [] => by simp [escL]
  | c :: l => by
    have := escL_length l
    unfold escL at this ⊢
    rw [List.flatMap_cons, List.length_append]
    have h : (if specialC c then [92, c] else [c]).length ≤ 2 := by split <;> simp
    simp only [List.length_cons]
    omega

theorem index_special (c : UInt8) : decide (0 ≤ Lib.indexByte [42, 63, 91, 93, 92] c) = (c == 42 || c == 63 || c == 91 || c == 93 || c == 92) := by
  by_cases h1 : c = 42
  · subst h1; decide
  by_cases h2 : c = 63
  · subst h2; decide
  by_cases h3 : c = 91
  · subst h3; decide
  by_cases h4 : c = 93
  · subst h4; decide
  by_cases h5 : c = 92
  · subst h5; decide
  simp [Lib.indexByte, h1, h2, h3, h4, h5, Ne.symm h1, Ne.symm h2, Ne.symm h3, Ne.symm h4, Ne.symm h5]

set_option maxHeartbeats 400000 in
theorem escaped_any (c : UInt8) (w : World) :
    Calls Tryz.prog 69 #[.int .u8 c.toNat] w fun e w' => e = .returned (.bool (specialC c)) ∧ w' = w := by
  have hc : ((c.toNat : Int)).toNat.toUInt8 = c := by simp
  obtain ⟨b, hb⟩ : ∃ b, (c == 42 || c == 63 || c == 91 || c == 93 || c == 92) = b := ⟨_, rfl⟩
  have hi := index_special c
  have hsp : specialC c = (b || blankC c) := by simp only [specialC, hb]
  rw [hb] at hi
  rw [hsp]
  clear hsp hb
  have HC : Hid _ := hc
  clear hc
  cases b
  all_goals
    go_enter Tryz.func69, Tryz.ntmps69
    go_wp2_with (first | (go_at_call 88; refine (Tryz.strings_IndexByte _ _ _).mono ?_; rintro e w1 ⟨rfl, hw1⟩; obtain rfl := hw1.symm; rw [HC.out]) | (go_at_call 61; refine (blank_any _ _).mono ?_; rintro e w1 ⟨rfl, hw1⟩; obtain rfl := hw1.symm))
    go_ret
    exact ⟨rfl, rfl⟩

theorem s_get (s : ByteArray) (k : Nat) (h : k < s.size) : s.data.toList[k]? = some s[k] := by
  rw [List.getElem?_eq_getElem (by simpa using h)]
  rfl

set_option maxHeartbeats 1000000 in
set_option maxRecDepth 100000 in
theorem escape_any (s : ByteArray) (hs : s.size < 35184372088832) (w : World) :
    Calls Tryz.prog 44 #[.string s] w fun e w' => e = .returned (.string ⟨(escL s.data.toList).toArray⟩) ∧ Below w.heap.size w w' := by
  go_enter Tryz.func44, Tryz.ntmps44
  go_wp2
  go_loopw [4, 7] (fun _ v7 wr => ∃ k : Nat, v7 = .int .i64 k ∧ k ≤ s.size ∧ Bld wr w.heap.size w.heap.size (escL (s.data.toList.take k)) ∧ Below w.heap.size w wr) (fun _ v7 _ => s.size - (intOf v7).toNat)
  case atStart => exact ⟨0, rfl, by omega, ⟨Nat.le_refl _, _, _, .inl rfl, Cel.new w 75 _, World.ownsRow_nil _ _ _ _⟩, (Below.refl _ w).alloc (Nat.le_refl _) _⟩
  case round =>
    obtain ⟨k, rfl, hk, hB, hw⟩ := hrel
    by_cases hlt : k < s.size
    · have hts : s.data.toList.take (k + 1) = s.data.toList.take k ++ [s[k]] := take_snoc (s_get s k hlt)
      have hel : (escL (s.data.toList.take k)).length ≤ 2 * k := Nat.le_trans (escL_length _) (by simp; omega)
      have HTS : Hid _ := hts
      clear hts
      have hwz := hw.size
      cases hq : specialC s[k]
      · go_wp2_with (first | (go_at_call 69; refine (escaped_any _ _).mono ?_; rintro e w1 ⟨rfl, hw1⟩; obtain rfl := hw1.symm; rw [hq]) | (go_at_call 65; refine (writeByte_bld w.heap.size _ _ _ _ hB (by omega) hwz).mono ?_; rintro e w1 ⟨rfl, hB1, hk1⟩))
        go_roundw
        case rel => exact ⟨k + 1, by simp, hlt, by rw [HTS.out, escL_snoc, hq]; exact hB1, hw.trans hk1.1⟩
        case measure => simp [intOf]; omega
      · go_wp2_with (first | (go_at_call 69; refine (escaped_any _ _).mono ?_; rintro e w1 ⟨rfl, hw1⟩; obtain rfl := hw1.symm; rw [hq]) | (go_at_call 70; refine (writeString_bld w.heap.size _ _ ⟨#[92]⟩ _ hB (by have h92 : (⟨#[92]⟩ : ByteArray).size = 1 := rfl; omega) hwz).mono ?_; rintro e w1 ⟨rfl, hB1, hk1⟩; have hz1 := Nat.le_trans hwz hk1.1.size) | (go_at_call 65; refine (writeByte_bld w.heap.size _ _ _ _ hB1 (by simp; omega) hz1).mono ?_; rintro e w2 ⟨rfl, hB2, hk2⟩))
        go_roundw
        case rel => exact ⟨k + 1, by simp, hlt, by rw [HTS.out, escL_snoc, hq]; simpa using hB2, (hw.trans hk1.1).trans hk2.1⟩
        case measure => simp [intOf]; omega
    · have hks : k = s.size := by omega
      have htk : s.data.toList.take k = s.data.toList := by rw [hks]; exact List.take_of_length_le (by simp)
      rw [htk] at hB
      go_wp2_with (go_at_call 66; refine (string_bld w.heap.size _ _ _ hB hw.size).mono ?_; rintro e w1 ⟨rfl, hb1, _⟩)
      go_ret
      exact ⟨rfl, hw.trans hb1⟩

set_option maxRecDepth 100000 in
set_option maxHeartbeats 2000000 in
theorem plain_in (n : Nat) (hn : 3 ≤ n) (s : ByteArray) (hs : s.size < 35184372088832) (w : World) :
    CallsIn Fence.wide n Tryz.prog 41 #[.string s] w fun e w' => e = .returned (.string ⟨((letts s.data.toList).map Prod.fst).toArray⟩) ∧ Below w.heap.size w w' := by
  have h1 : 1 ≤ n := by omega
  obtain ⟨L, hL⟩ : ∃ L, letts s.data.toList = L := ⟨_, rfl⟩
  rw [hL]
  have hxs : (placed 0 s.data.toList).map Prod.snd = L := by rw [placed_snd, hL]
  have hlen : (placed 0 s.data.toList).length = L.length := by rw [← hxs]; simp
  have hLs : L.length ≤ s.size := by rw [← hL]; exact Nat.le_trans (letts_length_le _) (by simp)
  clear hL
  have HXS : Hid _ := hxs
  have HLEN : Hid _ := hlen
  clear hxs hlen
  refine callsIn_of_wp_marks Tryz.func41 rfl trivial ?_ rfl
  simp only [Tryz.ntmps41, List.size_toArray, List.length_cons, List.length_nil, Nat.reduceAdd, Nat.reduceSub, Array.replicate_succ, Array.replicate_zero, List.push_toArray, List.append_toArray, List.nil_append, List.cons_append]
  gi_wp2
  refine ⟨trivial, ?_⟩
  refine (callsIn_wide.2 (letters_any _ _)).mono ?_
  rintro e w1 ⟨rfl, rfl⟩
  gi_wp2
  have c1 := Cel.new w 75 #[.pointer none, .slice none 0 0]
  have c2 := Cel.new (w.alloc (.cells #[.pointer none, .slice none 0 0] 75)) 9 #[.string s]
  rw [World.size_alloc] at c2
  have hB0 : Below w.heap.size w ((w.alloc (.cells #[.pointer none, .slice none 0 0] 75)).alloc (.cells #[.string s] 9)) := ((Below.refl _ w).alloc (Nat.le_refl _) _).alloc (by simp) _
  refine wpIn_range_each (b := w.heap.size + 1) rfl h1 (gf := 85) (lb := #[.pointer (some ⟨w.heap.size + 1, 0, none⟩)]) (by first | rfl | simp [Act.eval]) trivial (enters_of Tryz.func85 (by kernel_rfl) rfl)
    (letters_each (n - 1) (by omega) (w.heap.size + 1) s (by omega) _ (c2.cell 0)) (by simp) (Below.refl _ _) (fun _ => rfl)
    (fun k W => Bld W w.heap.size w.heap.size ((L.take k).map Prod.fst) ∧ Cel W (w.heap.size + 1) 9 #[.string s] ∧ Below w.heap.size w W)
    ?own ⟨⟨Nat.le_refl _, _, _, .inl rfl, c1.alloc _, World.ownsRow_nil _ _ _ _⟩, c2, hB0⟩
    (fun x a' W => ∃ Bx, w.heap.size + 1 < Bx ∧ Cel W Bx 70 #[.int .u8 x.2.1.toNat, .bool x.2.2] ∧ a' = { tmps := #[.string s, undef, .string ⟨#[]⟩, .pointer (some ⟨w.heap.size, 0, none⟩), undef, .pointer (some ⟨Bx, 0, none⟩), .string s, .func (.func 85) #[] #[.pointer (some ⟨w.heap.size + 1, 0, none⟩)], .int .i64 x.1, ltV x.2, undef, undef, undef, undef], defers := [] })
    ?axown ?assign ?body ?done
  case own =>
    rintro k X Y row ⟨⟨b1, p, v, hp, hc, ho⟩, a4, a5⟩ hg hr
    have hr' : ∀ r, row = some r → ∃ o : Obj, X.heap[r]? = some o ∧ o.isCells = false := fun r e => (hr r e).2
    exact ⟨⟨b1, p, v, hp, hc.own hg hr', owns_own ho hg hr'⟩, a4.own hg hr', a5.grown hg a5.size (fun q e => by have := (hr q e).1; simp at this; omega)⟩
  case axown =>
    rintro x a' _ X Y row ⟨Bx, h2, h3, h4⟩ hg hr
    exact ⟨Bx, h2, h3.own hg (fun r e => (hr r e).2), h4⟩
  case assign =>
    rintro l k x W K hx ⟨⟨b1, p, v, hp, hc, ho⟩, a4, a5⟩ hK
    gi_wp2
    exact hK _ _ ((KeepsOthers.alloc _ _).from _) (Below.heap_alloc _ _ _ a4.lt) ⟨⟨b1, p, v, hp, hc.alloc _, ho.alloc _⟩, a4.alloc _, a5.alloc a5.size _⟩ ⟨W.heap.size, a4.lt, Cel.new W 70 _, rfl⟩
  case body =>
    rintro l k x a' W hx ⟨hB, a4, a5⟩ ⟨Bx, b1, b2, rfl⟩
    have hxL : L[k]? = some x.2 := by rw [← HXS.out, List.getElem?_map, hx]; rfl
    have hkL : k < L.length := (List.getElem?_eq_some_iff.1 hxL).1
    have hts : L.take (k + 1) = L.take k ++ [x.2] := take_snoc hxL
    have hlk : ((L.take k).map Prod.fst).length < 70368744177664 := by simp; omega
    have HTS : Hid _ := hts
    clear hxL hts hx
    have d1 : W.cell? ⟨Bx, 0, none⟩ = some (.int .u8 x.2.1.toNat) := b2.cell 0
    gi_wp2
    refine ⟨trivial, fun _ => by omega, ?_⟩
    refine (CallsIn.inRound l (callsIn_wide.2 (writeByte_bld w.heap.size _ _ x.2.1 _ hB hlk a5.size))).mono ?_
    rintro e W2 ⟨rfl, hB2, hk2⟩
    gi_wp2
    have a4' := hk2.2.2 _ _ _ a4 (by decide) (by omega)
    refine ⟨hk2.2.1.from _, a4'.trans a4.symm, ?_, a4', a5.trans hk2.1⟩
    rw [HTS.out]; simpa using hB2
  case done =>
    rintro D W hD ⟨hB, a4, a5⟩ hK
    rw [HLEN.out, List.take_length] at hB
    gi_wp2
    refine ⟨trivial, ?_⟩
    refine (callsIn_wide.2 (string_bld w.heap.size _ _ _ hB a5.size)).mono ?_
    rintro e W2 ⟨rfl, hb2, hk2⟩
    gi_wp2
    have hne : D ≠ w.heap.size := by simp at hD; omega
    have g1 : W2.heap[D]? = some (.deferred (some [])) := hk2 D _ hK (fun e => hne (by cases e; rfl)) (fun c fz e => by cases e)
    refine ⟨by simp, .inl ⟨_, _, rfl, run_takeDeferred g1, ?_⟩⟩
    exact ⟨_, results_tmp rfl _ _ _, rfl, (a5.trans hb2).trans (belowK_b (w := w) (Nat.le_refl _) W2 D _ _ (by simp at hD; omega) g1 rfl rfl)⟩

theorem plain_any (s : ByteArray) (hs : s.size < 35184372088832) (w : World) :
    Calls Tryz.prog 41 #[.string s] w fun e w' => e = .returned (.string ⟨((letts s.data.toList).map Prod.fst).toArray⟩) ∧ Below w.heap.size w w' := callsIn_wide.1 (plain_in 3 (Nat.le_refl _) s hs w)
end Go.Proofs.YtdajacodfnidfaaGreatDoor
