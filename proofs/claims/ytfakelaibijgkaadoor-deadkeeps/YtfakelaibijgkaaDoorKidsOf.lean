/- The children of a program. -/
import Derived.Test.YtfakelaibijgkaaDoorClone
import Derived.Test.YtfakelaibijgkaaDoorInward
import Derived.Test.YtfakelaibijgkaaDoorTree
import Derived.Deep.RegionHeld
namespace Go.Proofs.YtfakelaibijgkaaDoor
open Go.RowKit
theorem take_one {α : Type} {l : List α} {k : Nat} {x : α} (h : l[k]? = some x) : l.take (k + 1) = l.take k ++ [x] := by rw [List.take_add_one, h]; rfl
theorem Cel.own {W W' : World} {row : Option Nat} {b : Nat} {t : TypeId} {cs : Array Value} (h : Cel W b t cs) (hg : W.grownBy W' row) (hr : ∀ r, row = some r → ∃ o : Obj, W.heap[r]? = some o ∧ o.isCells = false) : Cel W' b t cs :=
  (grownBy_keeps_cells hg hr h rfl).trans h
attribute [local go_sem] Oper.semAt_some

theorem step_append {P : Program} {o : Oper} {a : Act} {w : World} {K : Act → World → Prop} {Q : Exit → Act → World → Prop} (s x : Operand) (t : TypeId)
    (ho : o.op = .call { callee := .builtin .append, args := #[s, x], argTypes := #[t, t] })
    (base : Nat) (e : TypeId) (i : TypeInfo) (z : Value) (size bytes : Nat) (ht : P.underlying t = some (.slice e)) (hi : P.info? e = some i) (hz : i.zero = some z)
    (hsize : i.size = size) (hby : i.bytes = bytes) (hzs : z.cells.size = size) (hsz : 0 < size)
    (v : Value) (n : Nat) (xs : List Value) (hs : a.eval s = v) (hown : w.ownsRow base e size v n xs)
    (ad : Addr) (m c : Nat) (news : List Value) (hx : a.eval x = .slice (some ad) m c) (hl : news.length = m * size) (hnews : ∀ j u, news[j]? = some u → w.cell? (ad.add j) = some u) (h1 : ∀ u ∈ news, u.oneCell' = true)
    (h63 : n + m ≤ maxLen) (hbytes : (n + m) * bytes ≤ 140737488355328) (hbase : base ≤ w.heap.size)
    (h : ∀ v' w', w'.ownsRow base e size v' (n + m) (xs ++ news) → w.grownBy w' v.ownBlock → (v' = .slice none 0 0 ↔ v = .slice none 0 0 ∧ m = 0) → (v'.ownBlock = v.ownBlock ∨ v'.ownBlock = some w.heap.size) → K (a.put o.dst v') w') :
    Oper.wp P o a w K Q := by
  obtain ⟨v', w', hr, h2, h3, h4, h5⟩ := run_append_own_at (P := P) w base t o.type e i z size bytes ht hi hz hsize hby hzs hsz v n xs hown ad m c news hl hnews h1 h63 hbytes hbase
  unfold Oper.wp execOp
  simp only [ho, resolve, invoke, builtin, Sem.run_bind, Sem.run_pure, Result.andThen_ok, List.map_toArray, List.map_cons, List.map_nil, hs, hx, hr]
  exact h v' w' h2 h3 h4 h5
theorem NdAt.sub {W : World} {g o cap : Nat} {X : List Nd} (h : NdAt W (.slice (some ⟨g, o, none⟩) X.length cap) X) (p m : Nat) (h1 : 1 ≤ m) (h2 : p + m ≤ X.length) : NdAt W (.slice (some ⟨g, o + p * 5, none⟩) m (cap - p)) ((X.drop p).take m) := by
  have hlen : ((X.drop p).take m).length = m := by rw [List.length_take, List.length_drop]; omega
  rcases h with ⟨h0, _⟩ | ⟨g', o', cap', hv, hc, hg, hcs⟩
  · have : X = [] := by simpa using h0
    subst this
    simp at h2
    omega
  · rw [List.length_map] at hv hc
    cases hv
    refine .inr ⟨g, o + p * 5, cap - p, by rw [List.length_map, hlen], by rw [List.length_map, hlen]; omega, hg, fun j cs hj i u hu => ?_⟩
    have hjm : j < m := by
      have := (List.getElem?_eq_some_iff.1 hj).1
      rw [List.length_map, hlen] at this
      exact this
    rw [List.getElem?_map, List.getElem?_take_of_lt hjm, List.getElem?_drop] at hj
    have := hcs (p + j) cs (by rw [List.getElem?_map]; exact hj) i u hu
    rw [show o + p * 5 + j * 5 + i = o + (p + j) * 5 + i by omega]
    exact this
theorem KdOwn.grown {W W' : World} {B : Nat} {v : Value} {K : List (Value × List Nd)} {row : Option Nat} (h : KdOwn W B v K) (hg : W.grownBy W' row) (hr : ∀ r, row = some r → ∃ o : Obj, W.heap[r]? = some o ∧ o.isCells = false) : KdOwn W' B v K := by
  have key : ∀ {e k n : Nat} {u : Value} {xs : List Value}, W.ownsRow B e k u n xs → W'.ownsRow B e k u n xs := by
    intro e k n u xs ho
    refine owns_turn ho (Turn.ofGrown hg) (fun b hb e' => ?_)
    obtain ⟨o, h1, h2⟩ := hr b e'
    rcases ho.2 with ⟨rfl, _⟩ | ⟨g, cap, cur, rfl, _, hgb, _⟩
    · simp [Value.ownBlock] at hb
    · obtain rfl : g = b := by simpa [Value.ownBlock] using hb
      rw [hgb] at h1
      cases h1
      cases h2
  exact ⟨key h.1, fun p hp => key (h.2 p hp)⟩
theorem plG_fits (X : List Nd) (K fin : Int) (hf : fin ≤ X.length) : ∀ (f k at_ p : Nat), p ∈ plG X K fin f k at_ → ∃ y, X[p]? = some y ∧ 1 ≤ y.size ∧ p + y.size ≤ X.length
  | 0, _, _, _, h => by simp [plG] at h
  | f + 1, k, at_, p, h => by
    unfold plG at h
    split at h
    · split at h
      · simp at h
      · split at h
        · simp at h
        · rename_i y hy
          split at h
          · simp at h
          · rcases List.mem_cons.1 h with rfl | h
            · exact ⟨y, hy, by omega, by omega⟩
            · exact plG_fits X K fin hf f _ _ p h
    · simp at h
theorem plG_len (X : List Nd) (K fin : Int) : ∀ (f k at_ : Nat), (plG X K fin f k at_).length ≤ f
  | 0, _, _ => Nat.le_refl _
  | f + 1, k, at_ => by
    unfold plG
    split
    · split
      · simp
      · split
        · simp
        · split
          · simp
          · rw [List.length_cons]
            exact Nat.succ_le_succ (plG_len X K fin f _ _)
    · simp
theorem kidPl_len (X : List Nd) (i : Nat) : (kidPl X i).length ≤ X.length + 1 := by
  unfold kidPl
  split
  · simp
  · exact plG_len X _ _ _ _ _
theorem kidPl_fits (X : List Nd) (i p : Nat) (h : p ∈ kidPl X i) : ∃ y, X[p]? = some y ∧ 1 ≤ y.size ∧ p + y.size ≤ X.length := by
  unfold kidPl at h
  split at h
  · simp at h
  · refine plG_fits X _ _ ?_ _ _ _ p h
    unfold finOf
    omega
theorem KdOwn.cel {W W' : World} {B : Nat} {v : Value} {K : List (Value × List Nd)} (h : KdOwn W B v K) (hc : ∀ b t cs, Cel W b t cs → Cel W' b t cs) : KdOwn W' B v K := by
  have key : ∀ {e k n : Nat} {u : Value} {xs : List Value}, W.ownsRow B e k u n xs → W'.ownsRow B e k u n xs := by
    intro e k n u xs ho
    refine ⟨ho.1, ?_⟩
    rcases ho.2 with hn | ⟨g, cap, cur, hu, hb, hgg, rest⟩
    · exact .inl hn
    · exact .inr ⟨g, cap, cur, hu, hb, hc g e cur hgg, rest⟩
  exact ⟨key h.1, fun p hp => key (h.2 p hp)⟩
theorem KdOwn.lower {W : World} {B B' : Nat} {v : Value} {K : List (Value × List Nd)} (h : KdOwn W B v K) (hB : B' ≤ B) : KdOwn W B' v K := ⟨owns_lower h.1 hB, fun p hp => owns_lower (h.2 p hp) hB⟩
theorem KdOwn.other {W : World} {B : Nat} {v : Value} {K : List (Value × List Nd)} (h : KdOwn W B v K) {b j : Nat} (hb : b < B) (u : Value) : KdOwn (W.setCell ⟨b, j, none⟩ u) B v K := by
  have hT : Turn (fun i => i = b) W (W.setCell ⟨b, j, none⟩ u) := Turn.setCell (S := fun i => i = b) (Turn.refl _ W) (p := ⟨b, j, none⟩) (fun _ => rfl) u
  refine ⟨owns_turn h.1 hT (fun c hc e => ?_), fun p hp => owns_turn (h.2 p hp) hT (fun c hc e => ?_)⟩
  · have := (h.1.lt c hc).1
    omega
  · have := ((h.2 p hp).lt c hc).1
    omega
/-- A block below is not touched where a list grows. -/
theorem Cel.grew {W W' : World} {B e k n : Nat} {v : Value} {xs : List Value} {b : Nat} {t : TypeId} {cs : Array Value} (h : Cel W b t cs) (ho : W.ownsRow B e k v n xs) (hg : W.grownBy W' v.ownBlock) (hb : b < B) : Cel W' b t cs :=
  (hg.block b h.lt (fun e' => by have := (ho.lt b e'.symm).1; omega)).trans h
theorem keeps_below {B : Nat} {W W2 : World} (h : Below W.heap.size W W2) : KeepsFrom B W W2 := ⟨h.size, fun q _ _ hq _ => (h.block q (Array.getElem?_eq_some_iff.1 hq).1).trans hq⟩
theorem keeps_grown {B C e k n : Nat} {W W' : World} {v : Value} {xs : List Value} (ho : W.ownsRow C e k v n xs) (hg : W.grownBy W' v.ownBlock) : KeepsFrom B W W' :=
  (KeepsOthers.of_grownBy hg fun q o ej hj => by
    rcases ho.2 with ⟨rfl, _⟩ | ⟨g, cap, cur, rfl, _, hgb, _⟩
    · simp [Value.ownBlock] at ej
    · obtain rfl : g = q := by simpa [Value.ownBlock] using ej
      rw [hgb] at hj; cases hj; rfl).from B
/-- What is told of the world while a child is taken. -/
def ToldK (b1 g o cap len p m : Nat) (W : World) : Prop :=
  W.cell? ⟨b1, 0, none⟩ = some (.slice (some ⟨g, o, none⟩) len cap) ∧ W.cell? ⟨g, o + p * 5 + 3, none⟩ = some (.int .i64 (m : Nat))
/-- How things stand between two rounds. -/
structure KdS (w : World) (B g o len cap : Nat) (X : List Nd) (Y : List (List Nd)) (W : World) : Prop where
  lst : ∃ v K, Cel W (w.heap.size + 1) 36 #[v] ∧ KdOwn W B v K ∧ K.map Prod.snd = Y
  arg : Cel W w.heap.size 22 #[.slice (some ⟨g, o, none⟩) len cap]
  bel : Below w.heap.size w W
theorem KdS.grown {w : World} {B g o len cap : Nat} {X : List Nd} {Y : List (List Nd)} {W W' : World} {row : Option Nat} (h : KdS w B g o len cap X Y W) (hg : W.grownBy W' row) (hr : ∀ r, row = some r → w.heap.size ≤ r ∧ ∃ o : Obj, W.heap[r]? = some o ∧ o.isCells = false) : KdS w B g o len cap X Y W' := by
  have hr' : ∀ r, row = some r → ∃ o : Obj, W.heap[r]? = some o ∧ o.isCells = false := fun r e => (hr r e).2
  obtain ⟨v, K, h1, h2, h3⟩ := h.lst
  exact ⟨⟨v, K, h1.own hg hr', h2.grown hg hr', h3⟩, h.arg.own hg hr', h.bel.grown hg h.bel.size (fun q e => (hr q e).1)⟩

set_option maxRecDepth 100000 in
set_option maxHeartbeats 4000000 in
theorem kids_in (n : Nat) (hn : 3 ≤ n) (g o cap : Nat) (X : List Nd) (w : World) (h0 : 0 < X.length) (hl : X.length < 4294967296) (hX : ∀ x ∈ X, -9223372036854775808 ≤ x.size ∧ x.k ≤ 9223372036854775807) (hN : NdAt w (.slice (some ⟨g, o, none⟩) X.length cap) X) :
    CallsIn Fence.wide n Tryd.prog 32 #[.slice (some ⟨g, o, none⟩) X.length cap] w fun e w' => ∃ v' K, e = .returned v' ∧ KdOwn w' w.heap.size v' K ∧ K.map Prod.snd = kidsL X ∧ Below w.heap.size w w' := by
  have h1 : 1 ≤ n := by omega
  obtain ⟨i0, hi0, hz0, hz1', hz2⟩ := info_parts info25
  obtain ⟨len, hlen⟩ : ∃ len, X.length = len := ⟨_, rfl⟩
  rw [hlen] at h0 hl hN ⊢
  have HN : Hid (∀ W', Below w.heap.size w W' → NdAt W' (.slice (some ⟨g, o, none⟩) len cap) X) := fun W' hb => hN.below hb (Nat.le_refl _)
  obtain ⟨x, hx⟩ : ∃ x, X[0]? = some x := ⟨_, List.getElem?_eq_getElem (by omega)⟩
  have hx2 := hX x (List.mem_of_getElem? hx)
  have HX : Hid (X[0]? = some x) := hx
  have hcl : len ≤ cap := by
    rcases hN with ⟨e0, _⟩ | ⟨g', o', cap', hv, hc, _⟩
    · have : X = [] := by simpa using e0
      rw [this] at hlen
      simp at hlen
      omega
    · cases hv
      rw [List.length_map] at hc
      omega
  clear hx hN
  refine callsIn_of_wp_marks Tryd.func32 rfl trivial ?_ rfl
  simp only [Tryd.ntmps32, List.size_toArray, List.length_cons, List.length_nil, Nat.reduceAdd, Nat.reduceSub, Array.replicate_succ, Array.replicate_zero, List.push_toArray, List.append_toArray, List.nil_append, List.cons_append]
  gi_wp2
  obtain ⟨w1, hw1⟩ : ∃ w1, w1 = (w.alloc (.cells #[.slice (some ⟨g, o, none⟩) len cap] 22)).alloc (.cells #[.slice none 0 0] 36) := ⟨_, rfl⟩
  have hz1 : w.heap.size + 1 < w1.heap.size := by rw [hw1]; simp
  have HS1 : Hid (∀ B3, KdS w B3 g o len cap X [] w1) := by
    refine fun B3 => ⟨⟨.slice none 0 0, [], ?_, KdOwn.nil _ _, rfl⟩, ?_, ?_⟩
    · rw [hw1, show w.heap.size + 1 = (w.alloc (.cells #[.slice (some ⟨g, o, none⟩) len cap] 22)).heap.size by simp]
      exact Cel.new _ 36 _
    · rw [hw1]
      exact (Cel.new w 22 _).turn (Turn.ofBelow (S := fun _ => False) (below_new _ _)) (fun h => h)
    · rw [hw1]
      exact (below_new w _).alloc (below_new w _).size _
  rw [← hw1]
  refine ⟨trivial, ?_⟩
  refine (callsIn_wide.2 (kidPlaces_any _ _ _ _ _)).mono ?_
  rintro e w3 ⟨rfl, hw3⟩
  have HS3 : Hid (KdS w w3.heap.size g o len cap X [] w3) := by
    unfold Hid
    have := HS1.out w3.heap.size
    revert this
    generalize w3.heap.size = B3
    intro this
    rw [hw3]
    exact (this.grown (World.grownBy_alloc _ _ none) (fun r e => by cases e)).grown (World.grownBy_alloc _ _ none) (fun r e => by cases e)
  have Cl : Cel w3 w1.heap.size 22 #[.slice (some ⟨g, o, none⟩) len cap] := by
    rw [hw3]
    exact (Cel.new _ 22 _).turn (Turn.ofBelow (S := fun _ => False) (below_new _ _)) (fun h => h)
  have Ci : Cel w3 (w1.heap.size + 1) 3 #[.int .i64 0] := by
    rw [hw3, show w1.heap.size + 1 = (w1.alloc (.cells #[.slice (some ⟨g, o, none⟩) len cap] 22)).heap.size by simp]
    exact Cel.new _ 3 _
  have HC : Hid (Cel w3 w1.heap.size 22 #[.slice (some ⟨g, o, none⟩) len cap] ∧ Cel w3 (w1.heap.size + 1) 3 #[.int .i64 0]) := ⟨Cl, Ci⟩
  have hws : w.heap.size ≤ w3.heap.size := HS3.out.bel.size
  clear hw3 hw1 Cl Ci HS1
  gi_wp2
  refine wpIn_range_own rfl h1 (gf := 61) (lb := #[.pointer (some ⟨w1.heap.size + 1, 0, none⟩), .pointer (some ⟨w1.heap.size, 0, none⟩)]) (by first | rfl | simp [Act.eval]) trivial (enters_of Tryd.func61 (by kernel_rfl) rfl)
    (encs := fun p : Nat => #[.int .i64 (p : Nat)]) (xs := kidPl X 0) (fun A => A.cell? ⟨w1.heap.size + 1, 0, none⟩ = some (.int .i64 (0 : Nat)) ∧ A.cell? ⟨w1.heap.size, 0, none⟩ = some (.slice (some ⟨g, o, none⟩) X.length cap) ∧ NdAt A (.slice (some ⟨g, o, none⟩) X.length cap) X)
    (fun l J W' r1 r2 r3 r4 => places_in (n - 1) (by omega) l (w1.heap.size + 1) w1.heap.size X 0 x g o cap HX.out (by omega) hx2.1 hx2.2 J r1 r2 r3 W' r4) (fun _ => rfl)
    (fun k A => KdS w w3.heap.size g o len cap X (((kidPl X 0).take k).map (segAt X)) A ∧ Cel A w1.heap.size 22 #[.slice (some ⟨g, o, none⟩) len cap] ∧ Cel A (w1.heap.size + 1) 3 #[.int .i64 0] ∧ w3.heap.size ≤ A.heap.size)
    ?own ?reads ?draws ⟨HS3.out, HC.out.1, HC.out.2, Nat.le_refl _⟩
    (fun p a' _ => a' = { tmps := #[.slice (some ⟨g, o, none⟩) len cap, .pointer (some ⟨w.heap.size, 0, none⟩), .slice none 0 0, .pointer (some ⟨w.heap.size + 1, 0, none⟩), .int .i64 (p : Nat), .slice (some ⟨g, o, none⟩) len cap, .func (.func 61) #[] #[.pointer (some ⟨w1.heap.size + 1, 0, none⟩), .pointer (some ⟨w1.heap.size, 0, none⟩)], .int .i64 (p : Nat), undef, undef, undef, undef, undef, undef, undef, undef, undef, undef, undef, undef, undef, undef, undef], defers := [] })
    ?axown ?assign ?body ?done
  case own =>
    rintro k A A' row ⟨a1, a2, a3, hgs⟩ hg hr
    have hr' : ∀ r, row = some r → ∃ o : Obj, A.heap[r]? = some o ∧ o.isCells = false := fun r e => (hr r e).2
    exact ⟨a1.grown hg (fun r e => ⟨Nat.le_trans hws (hr r e).1, (hr r e).2⟩), a2.own hg hr', a3.own hg hr', Nat.le_trans hgs hg.size⟩
  case reads =>
    rintro k A ⟨a1, a2, a3, _⟩
    rw [hlen]
    exact ⟨a3.cell 0, a2.cell 0, HN.out A a1.bel⟩
  case draws =>
    rintro k A m ⟨⟨a0, a1, a2⟩, a3, a4, a5⟩
    exact ⟨⟨a0, a1, ⟨a2.os, a2.tape, a2.output, a2.size, a2.block⟩⟩, a3, a4, a5⟩
  case axown => exact fun p a' _ _ _ _ h _ _ => h
  case assign =>
    rintro l k p A K hp hI hK
    gi_wp2
    exact hK _ _ (KeepsFrom.refl _ _) hI rfl
  case body =>
    rintro l k p a' A hp ⟨⟨⟨v, K, l1, l2, l3⟩, a2, a3⟩, a4, a5, hgs⟩ rfl
    obtain ⟨y, hy, hy1, hy2⟩ := kidPl_fits X 0 p (List.mem_of_getElem? hp)
    obtain ⟨m, hm⟩ : ∃ m : Nat, y.size = m := ⟨y.size.toNat, by omega⟩
    have hm1 : 1 ≤ m := by omega
    have hKl : K.length ≤ len + 1 := by
      have e1 := congrArg List.length l3
      rw [List.length_map, List.length_map, List.length_take] at e1
      have e2 := kidPl_len X 0
      omega
    have hw13 : w1.heap.size + 1 < w3.heap.size := HC.out.2.lt
    have hpm : p + m ≤ len := by omega
    have hpl : p < len := by omega
    have hcp : ¬ cap = p := by omega
    have HT : Hid (((kidPl X 0).take (k + 1)).map (segAt X) = ((kidPl X 0).take k).map (segAt X) ++ [(X.drop p).take m]) := by
      unfold Hid
      rw [take_one hp, List.map_append]
      congr 1
      simp [segAt, hy, hm]
    have HSUB : Hid (∀ W', Below w.heap.size w W' → NdAt W' (.slice (some ⟨g, o + p * 5, none⟩) m (cap - p)) ((X.drop p).take m)) := fun W' hb => by
      have := HN.out W' hb
      rw [← hlen] at this
      exact this.sub p m hm1 (by omega)
    obtain ⟨adk, capk, rfl⟩ := owns_slice l2.1
    have HTOLD : Hid (∀ W', Below w.heap.size w W' → W'.cell? ⟨w.heap.size, 0, none⟩ = some (.slice (some ⟨g, o, none⟩) len cap) → ToldK w.heap.size g o cap len p m W') := fun W' hb c2 => by
      refine ⟨c2, ?_⟩
      obtain ⟨g', o', cap', hv, _, _, _, _, d3, _⟩ := (HN.out W' hb).at hy
      cases hv
      rw [hm] at d3
      exact d3
    clear hy hy1 hy2 hm
    refine wpIn_block ?_
    refine wpIn_region_inward (by kernel_rfl) (by kernel_rfl) (fun h => by obtain ⟨_, _, h⟩ := h; exact h) ?_
    refine wpAny_of_held (S := ToldK w.heap.size g o cap len p m) _ _ _ _ ?_
    change wpAnyH _ _ _ _ _ _ _ _ (World.drew _)
    have hb0 : Below w.heap.size w (World.drew A) := ⟨a3.os, a3.tape, a3.output, a3.size, a3.block⟩
    have hS0 : ToldK w.heap.size g o cap len p m (World.drew A) := HTOLD.out _ hb0 (a2.cell 0)
    refine wpAnyH_take (i := 1) (v := .slice (some ⟨g, o, none⟩) len cap) rfl (by kernel_rfl) (by kernel_rfl) (by kernel_rfl) (fun _ _ _ h => h) (Or.inl ⟨by rfl, fun wz hS => by obtain ⟨s2, s3⟩ := hS; go_simp⟩) hS0 ?_
    try simp only [Act.put, List.getElem_toArray, List.getElem_cons_succ, List.getElem_cons_zero, List.setIfInBounds_toArray, List.set_cons_zero, List.set_cons_succ]
    refine wpAnyH_take (i := 2) (v := .int .i64 (p : Nat)) rfl (by kernel_rfl) (by kernel_rfl) (by kernel_rfl) (fun _ _ _ h => h) (Yields.yieldsIf (Or.inl ⟨by rfl, by intro wz; go_simp⟩)) hS0 ?_
    try simp only [Act.put, List.getElem_toArray, List.getElem_cons_succ, List.getElem_cons_zero, List.setIfInBounds_toArray, List.set_cons_zero, List.set_cons_succ]
    refine wpAnyH_take (i := 3) (v := .int .i64 (p : Nat)) rfl (by kernel_rfl) (by kernel_rfl) (by kernel_rfl) (fun _ _ _ h => h) (Yields.yieldsIf (Or.inl ⟨by rfl, by intro wz; go_simp⟩)) hS0 ?_
    try simp only [Act.put, List.getElem_toArray, List.getElem_cons_succ, List.getElem_cons_zero, List.setIfInBounds_toArray, List.set_cons_zero, List.set_cons_succ]
    refine wpAnyH_take (i := 4) (v := .slice (some ⟨g, o, none⟩) len cap) rfl (by kernel_rfl) (by kernel_rfl) (by kernel_rfl) (fun _ _ _ h => h) (Or.inl ⟨by rfl, fun wz hS => by obtain ⟨s2, s3⟩ := hS; go_simp⟩) hS0 ?_
    try simp only [Act.put, List.getElem_toArray, List.getElem_cons_succ, List.getElem_cons_zero, List.setIfInBounds_toArray, List.set_cons_zero, List.set_cons_succ]
    refine wpAnyH_take (i := 5) (v := .int .i64 (p : Nat)) rfl (by kernel_rfl) (by kernel_rfl) (by kernel_rfl) (fun _ _ _ h => h) (Yields.yieldsIf (Or.inl ⟨by rfl, by intro wz; go_simp⟩)) hS0 ?_
    try simp only [Act.put, List.getElem_toArray, List.getElem_cons_succ, List.getElem_cons_zero, List.setIfInBounds_toArray, List.set_cons_zero, List.set_cons_succ]
    refine wpAnyH_take (i := 6) (v := .pointer (some ⟨g, o + p * 5, none⟩)) rfl (by kernel_rfl) (by kernel_rfl) (by kernel_rfl) (fun _ _ _ h => h) (Yields.yieldsIf (Or.inl ⟨by rfl, by intro wz; go_simp⟩)) hS0 ?_
    try simp only [Act.put, List.getElem_toArray, List.getElem_cons_succ, List.getElem_cons_zero, List.setIfInBounds_toArray, List.set_cons_zero, List.set_cons_succ]
    refine wpAnyH_take (i := 7) (v := .pointer (some ⟨g, o + p * 5 + 3, none⟩)) rfl (by kernel_rfl) (by kernel_rfl) (by kernel_rfl) (fun _ _ _ h => h) (Yields.yieldsIf (Or.inl ⟨by rfl, by intro wz; go_simp⟩)) hS0 ?_
    try simp only [Act.put, List.getElem_toArray, List.getElem_cons_succ, List.getElem_cons_zero, List.setIfInBounds_toArray, List.set_cons_zero, List.set_cons_succ]
    refine wpAnyH_take (i := 8) (v := .int .i64 (m : Nat)) rfl (by kernel_rfl) (by kernel_rfl) (by kernel_rfl) (fun _ _ _ h => h) (Or.inl ⟨by rfl, fun wz hS => by obtain ⟨s2, s3⟩ := hS; go_simp⟩) hS0 ?_
    try simp only [Act.put, List.getElem_toArray, List.getElem_cons_succ, List.getElem_cons_zero, List.setIfInBounds_toArray, List.set_cons_zero, List.set_cons_succ]
    refine wpAnyH_take (i := 9) (v := .int .i64 ((p + m : Nat) : Int)) rfl (by kernel_rfl) (by kernel_rfl) (by kernel_rfl) (fun _ _ _ h => h) (Yields.yieldsIf (Or.inl ⟨by rfl, by intro wz; go_simp; rw [IntKind.wrap_i64]; omega⟩)) hS0 ?_
    try simp only [Act.put, List.getElem_toArray, List.getElem_cons_succ, List.getElem_cons_zero, List.setIfInBounds_toArray, List.set_cons_zero, List.set_cons_succ]
    refine wpAnyH_take (i := 10) (v := .slice (some ⟨g, o + p * 5, none⟩) m (cap - p)) rfl (by kernel_rfl) (by kernel_rfl) (by kernel_rfl) (fun _ _ _ h => h) (Yields.yieldsIf (Or.inl ⟨by rfl, by intro wz; go_simp; rw [if_pos ⟨by omega, by omega⟩, if_pos (by omega), show ((p : Int) + (m : Int)).toNat - p = m by omega]⟩)) hS0 ?_
    try simp only [Act.put, List.getElem_toArray, List.getElem_cons_succ, List.getElem_cons_zero, List.setIfInBounds_toArray, List.set_cons_zero, List.set_cons_succ]
        refine wpAnyH_ready (rs := [0, 11]) (by kernel_rfl) (by simp) ?_
    refine AllReadyH.cons rfl (fun K' hK => ?_) ?_
    · have cv : (World.drew A).cell? ⟨w.heap.size + 1, 0, none⟩ = some (.slice adk K.length capk) := l1.cell 0
      go_simp
      refine hK.out _ _ hS0 (fun _ => ?_)
      clear hK K' cv
      try simp only [Act.put, List.getElem_toArray, List.getElem_cons_succ, List.getElem_cons_zero, List.setIfInBounds_toArray, List.set_cons_zero, List.set_cons_succ]
      refine wpAnyH_ready (rs := [11]) (by kernel_rfl) (by simp) ?_
      refine AllReadyH.cons rfl (fun K' hK => ?_) AllReadyH.nil
      go_simp
      refine (clone_any _ _ _ (HSUB.out _ hb0) (by rw [List.length_take, List.length_drop]; omega)).mono ?_
      rintro e w2 ⟨v2, rfl, ho2, hb2⟩
      have hmm : ((X.drop p).take m).length = m := by rw [List.length_take, List.length_drop]; omega
      obtain ⟨ad2, cap2, rfl⟩ := owns_slice ho2
      rw [hmm] at ho2 ⊢
      have hbw2 : Below w.heap.size w w2 := hb0.trans (hb2.mono hb0.size)
      have hbA2 : Below A.heap.size A w2 := ⟨hb2.os, hb2.tape, hb2.output, hb2.size, hb2.block⟩
      have L1 : Cel w2 (w.heap.size + 1) 36 #[.slice adk K.length capk] := l1.below hbA2 l1.lt
      have A2 : Cel w2 w.heap.size 22 #[.slice (some ⟨g, o, none⟩) len cap] := a2.below hbA2 a2.lt
      have hS2 : ToldK w.heap.size g o cap len p m w2 := HTOLD.out _ hbw2 (A2.cell 0)
      refine hK.out _ _ hS2 (fun _ => ?_)
      clear hK K'
      try simp only [Act.put, List.getElem_toArray, List.getElem_cons_succ, List.getElem_cons_zero, List.setIfInBounds_toArray, List.set_cons_zero, List.set_cons_succ]
      refine wpAnyH_ready (rs := [12]) (by kernel_rfl) (by simp) ?_
      refine AllReadyH.cons rfl (fun K' hK => ?_) AllReadyH.nil
      obtain ⟨w2a, hw2a⟩ : ∃ w2a, w2a = w2.alloc (.cells #[.slice ad2 m cap2] 22) := ⟨_, rfl⟩
      have hb2a2 : Below w2.heap.size w2 w2a := by rw [hw2a]; exact below_new _ _
      have hbA2a : Below A.heap.size A w2a := hbA2.trans (hb2a2.mono hbA2.size)
      have L1a : Cel w2a (w.heap.size + 1) 36 #[.slice adk K.length capk] := l1.below hbA2a l1.lt
      have A2a : Cel w2a w.heap.size 22 #[.slice (some ⟨g, o, none⟩) len cap] := a2.below hbA2a a2.lt
      have hb2a : Below w.heap.size w w2a := hbw2.trans (hb2a2.mono hbw2.size)
      have KA : w2a.ownsRow w3.heap.size 22 1 (.slice adk K.length capk) K.length (K.map Prod.fst) := (l2.below hbA2a).1
      have hS2a : ToldK w.heap.size g o cap len p m w2a := HTOLD.out _ hb2a (A2a.cell 0)
      have HW2 : Hid (w2a = w2.alloc (.cells #[.slice ad2 m cap2] 22)) := hw2a
      go_simp
      rw [← hw2a]
      clear hw2a
      refine hK.out _ _ hS2a (fun _ => ?_)
      clear hK K'
      try simp only [Act.put, List.getElem_toArray, List.getElem_cons_succ, List.getElem_cons_zero, List.setIfInBounds_toArray, List.set_cons_zero, List.set_cons_succ]
      refine wpAnyH_ready (rs := [13]) (by kernel_rfl) (by simp) ?_
      refine AllReadyH.cons rfl (fun K' hK => ?_) AllReadyH.nil
      refine step_append _ _ 36 rfl w3.heap.size 22 i0 _ 1 24 Tryd.underlying36 hi0 hz0 hz1' hz2 rfl (by decide) (.slice adk K.length capk) K.length (K.map Prod.fst) rfl KA ⟨w2.heap.size, 0, none⟩ 1 1 [.slice ad2 m cap2] rfl rfl (by rw [HW2.out]; exact cells_new w2 _ 22) (slice_one _ ⟨_, _, _, rfl⟩) (by have := maxLen_big; omega) (by omega) (Nat.le_trans hgs hbA2a.size) ?_
      intro v4 w4 hown4 hgrow4 _ _
      obtain ⟨ad4, cap4, rfl⟩ := owns_slice hown4
      have hfin := KdOwn.snoc (o := .cells #[.slice ad2 m cap2] 22) l2 hbA2 hgs hgs ho2 hown4 (HW2.out ▸ hgrow4)
      have L4 : Cel w4 (w.heap.size + 1) 36 #[.slice adk K.length capk] := L1a.grew KA hgrow4 (by omega)
      have A4 : Cel w4 w.heap.size 22 #[.slice (some ⟨g, o, none⟩) len cap] := A2a.grew KA hgrow4 (by omega)
      have B4 : Cel w4 w1.heap.size 22 #[.slice (some ⟨g, o, none⟩) len cap] := (a4.below hbA2a a4.lt).grew KA hgrow4 (by omega)
      have C4 : Cel w4 (w1.heap.size + 1) 3 #[.int .i64 0] := (a5.below hbA2a a5.lt).grew KA hgrow4 (by omega)
      have hb4 : Below w.heap.size w w4 := a3.trans (hfin.2.mono hws)
      have c4 : w4.cell? ⟨w.heap.size + 1, 0, none⟩ = some (.slice adk K.length capk) := L4.cell 0
      have f4 : w4.frozen? ⟨w.heap.size + 1, 0, none⟩ = false := L4.frozen 0
      refine hK.out _ _ (HTOLD.out _ hb4 (A4.cell 0)) (fun _ => ?_)
      clear hK K'
      try simp only [Act.put, List.getElem_toArray, List.getElem_cons_succ, List.getElem_cons_zero, List.setIfInBounds_toArray, List.set_cons_zero, List.set_cons_succ]
      refine wpAnyH_ready (rs := [14]) (by kernel_rfl) (by simp) ?_
      refine AllReadyH.cons rfl (fun K' hK => ?_) AllReadyH.nil
      have hb5 : Below w.heap.size w (w4.setCell ⟨w.heap.size + 1, 0, none⟩ (.slice ad4 (K.length + 1) cap4)) := hb4.setCell (p := ⟨w.heap.size + 1, 0, none⟩) (by show w.heap.size ≤ w.heap.size + 1; omega) _
      have L5 := L4.set (j := 0) (.slice ad4 (K.length + 1) cap4)
      have A5 := A4.other (b' := w.heap.size + 1) (j := 0) (by omega) (.slice ad4 (K.length + 1) cap4)
      have B5 := B4.other (b' := w.heap.size + 1) (j := 0) (by omega) (.slice ad4 (K.length + 1) cap4)
      have C5 := C4.other (b' := w.heap.size + 1) (j := 0) (by omega) (.slice ad4 (K.length + 1) cap4)
      have K5 := hfin.1.other (b := w.heap.size + 1) (j := 0) (by omega) (.slice ad4 (K.length + 1) cap4)
      have keep : KeepsFrom w3.heap.size A (w4.setCell ⟨w.heap.size + 1, 0, none⟩ (.slice ad4 (K.length + 1) cap4)) := ((keeps_below hbA2a).trans (keeps_grown KA hgrow4)).trans ((KeepsOthers.setCell _ _ _).from _)
      have hs5 : w3.heap.size ≤ (w4.setCell ⟨w.heap.size + 1, 0, none⟩ (.slice ad4 (K.length + 1) cap4)).heap.size := Nat.le_trans hgs keep.size
      have hT5 : ToldK w.heap.size g o cap len p m (w4.setCell ⟨w.heap.size + 1, 0, none⟩ (.slice ad4 (K.length + 1) cap4)) := HTOLD.out _ hb5 (A5.cell 0)
      have FIN : Hid (KeepsFrom w3.heap.size A (w4.setCell ⟨w.heap.size + 1, 0, none⟩ (.slice ad4 (K.length + 1) cap4)) ∧ KdS w w3.heap.size g o len cap X (((kidPl X 0).take (k + 1)).map (segAt X)) (w4.setCell ⟨w.heap.size + 1, 0, none⟩ (.slice ad4 (K.length + 1) cap4)) ∧ Cel (w4.setCell ⟨w.heap.size + 1, 0, none⟩ (.slice ad4 (K.length + 1) cap4)) w1.heap.size 22 #[.slice (some ⟨g, o, none⟩) len cap] ∧ Cel (w4.setCell ⟨w.heap.size + 1, 0, none⟩ (.slice ad4 (K.length + 1) cap4)) (w1.heap.size + 1) 3 #[.int .i64 0] ∧ w3.heap.size ≤ (w4.setCell ⟨w.heap.size + 1, 0, none⟩ (.slice ad4 (K.length + 1) cap4)).heap.size) := by
        refine ⟨keep, ⟨⟨_, _, L5, K5, ?_⟩, A5, hb5⟩, B5, C5, hs5⟩
        rw [HT.out, List.map_append, l3]
        rfl
      clear L5 A5 B5 C5 K5 keep hs5 hb5 hfin B4 C4 L4 A4
      go_simp
      refine hK.out _ _ hT5 (fun _ => ?_)
      clear hK K'
      refine wpAnyH_done (by kernel_rfl) ?_ _
      exact FIN.out
    refine AllReadyH.cons rfl (fun K' hK => ?_) AllReadyH.nil
    go_simp
    refine (clone_any _ _ _ (HSUB.out _ hb0) (by rw [List.length_take, List.length_drop]; omega)).mono ?_
    rintro e w2 ⟨v2, rfl, ho2, hb2⟩
    have hmm : ((X.drop p).take m).length = m := by rw [List.length_take, List.length_drop]; omega
    obtain ⟨ad2, cap2, rfl⟩ := owns_slice ho2
    rw [hmm] at ho2 ⊢
    have hbw2 : Below w.heap.size w w2 := hb0.trans (hb2.mono hb0.size)
    have hbA2 : Below A.heap.size A w2 := ⟨hb2.os, hb2.tape, hb2.output, hb2.size, hb2.block⟩
    have L1 : Cel w2 (w.heap.size + 1) 36 #[.slice adk K.length capk] := l1.below hbA2 l1.lt
    have A2 : Cel w2 w.heap.size 22 #[.slice (some ⟨g, o, none⟩) len cap] := a2.below hbA2 a2.lt
    have hS2 : ToldK w.heap.size g o cap len p m w2 := HTOLD.out _ hbw2 (A2.cell 0)
    refine hK.out _ _ hS2 (fun _ => ?_)
    clear hK K'
    try simp only [Act.put, List.getElem_toArray, List.getElem_cons_succ, List.getElem_cons_zero, List.setIfInBounds_toArray, List.set_cons_zero, List.set_cons_succ]
    refine wpAnyH_ready (rs := [0, 12]) (by kernel_rfl) (by simp) ?_
    refine AllReadyH.cons rfl (fun K' hK => ?_) ?_
    · have cv : w2.cell? ⟨w.heap.size + 1, 0, none⟩ = some (.slice adk K.length capk) := L1.cell 0
      go_simp
      refine hK.out _ _ hS2 (fun _ => ?_)
      clear hK K' cv
      try simp only [Act.put, List.getElem_toArray, List.getElem_cons_succ, List.getElem_cons_zero, List.setIfInBounds_toArray, List.set_cons_zero, List.set_cons_succ]
      refine wpAnyH_ready (rs := [12]) (by kernel_rfl) (by simp) ?_
      refine AllReadyH.cons rfl (fun K' hK => ?_) AllReadyH.nil
      obtain ⟨w2a, hw2a⟩ : ∃ w2a, w2a = w2.alloc (.cells #[.slice ad2 m cap2] 22) := ⟨_, rfl⟩
      have hb2a2 : Below w2.heap.size w2 w2a := by rw [hw2a]; exact below_new _ _
      have hbA2a : Below A.heap.size A w2a := hbA2.trans (hb2a2.mono hbA2.size)
      have L1a : Cel w2a (w.heap.size + 1) 36 #[.slice adk K.length capk] := l1.below hbA2a l1.lt
      have A2a : Cel w2a w.heap.size 22 #[.slice (some ⟨g, o, none⟩) len cap] := a2.below hbA2a a2.lt
      have hb2a : Below w.heap.size w w2a := hbw2.trans (hb2a2.mono hbw2.size)
      have KA : w2a.ownsRow w3.heap.size 22 1 (.slice adk K.length capk) K.length (K.map Prod.fst) := (l2.below hbA2a).1
      have hS2a : ToldK w.heap.size g o cap len p m w2a := HTOLD.out _ hb2a (A2a.cell 0)
      have HW2 : Hid (w2a = w2.alloc (.cells #[.slice ad2 m cap2] 22)) := hw2a
      go_simp
      rw [← hw2a]
      clear hw2a
      refine hK.out _ _ hS2a (fun _ => ?_)
      clear hK K'
      try simp only [Act.put, List.getElem_toArray, List.getElem_cons_succ, List.getElem_cons_zero, List.setIfInBounds_toArray, List.set_cons_zero, List.set_cons_succ]
      refine wpAnyH_ready (rs := [13]) (by kernel_rfl) (by simp) ?_
      refine AllReadyH.cons rfl (fun K' hK => ?_) AllReadyH.nil
      refine step_append _ _ 36 rfl w3.heap.size 22 i0 _ 1 24 Tryd.underlying36 hi0 hz0 hz1' hz2 rfl (by decide) (.slice adk K.length capk) K.length (K.map Prod.fst) rfl KA ⟨w2.heap.size, 0, none⟩ 1 1 [.slice ad2 m cap2] rfl rfl (by rw [HW2.out]; exact cells_new w2 _ 22) (slice_one _ ⟨_, _, _, rfl⟩) (by have := maxLen_big; omega) (by omega) (Nat.le_trans hgs hbA2a.size) ?_
      intro v4 w4 hown4 hgrow4 _ _
      obtain ⟨ad4, cap4, rfl⟩ := owns_slice hown4
      have hfin := KdOwn.snoc (o := .cells #[.slice ad2 m cap2] 22) l2 hbA2 hgs hgs ho2 hown4 (HW2.out ▸ hgrow4)
      have L4 : Cel w4 (w.heap.size + 1) 36 #[.slice adk K.length capk] := L1a.grew KA hgrow4 (by omega)
      have A4 : Cel w4 w.heap.size 22 #[.slice (some ⟨g, o, none⟩) len cap] := A2a.grew KA hgrow4 (by omega)
      have B4 : Cel w4 w1.heap.size 22 #[.slice (some ⟨g, o, none⟩) len cap] := (a4.below hbA2a a4.lt).grew KA hgrow4 (by omega)
      have C4 : Cel w4 (w1.heap.size + 1) 3 #[.int .i64 0] := (a5.below hbA2a a5.lt).grew KA hgrow4 (by omega)
      have hb4 : Below w.heap.size w w4 := a3.trans (hfin.2.mono hws)
      have c4 : w4.cell? ⟨w.heap.size + 1, 0, none⟩ = some (.slice adk K.length capk) := L4.cell 0
      have f4 : w4.frozen? ⟨w.heap.size + 1, 0, none⟩ = false := L4.frozen 0
      refine hK.out _ _ (HTOLD.out _ hb4 (A4.cell 0)) (fun _ => ?_)
      clear hK K'
      try simp only [Act.put, List.getElem_toArray, List.getElem_cons_succ, List.getElem_cons_zero, List.setIfInBounds_toArray, List.set_cons_zero, List.set_cons_succ]
      refine wpAnyH_ready (rs := [14]) (by kernel_rfl) (by simp) ?_
      refine AllReadyH.cons rfl (fun K' hK => ?_) AllReadyH.nil
      have hb5 : Below w.heap.size w (w4.setCell ⟨w.heap.size + 1, 0, none⟩ (.slice ad4 (K.length + 1) cap4)) := hb4.setCell (p := ⟨w.heap.size + 1, 0, none⟩) (by show w.heap.size ≤ w.heap.size + 1; omega) _
      have L5 := L4.set (j := 0) (.slice ad4 (K.length + 1) cap4)
      have A5 := A4.other (b' := w.heap.size + 1) (j := 0) (by omega) (.slice ad4 (K.length + 1) cap4)
      have B5 := B4.other (b' := w.heap.size + 1) (j := 0) (by omega) (.slice ad4 (K.length + 1) cap4)
      have C5 := C4.other (b' := w.heap.size + 1) (j := 0) (by omega) (.slice ad4 (K.length + 1) cap4)
      have K5 := hfin.1.other (b := w.heap.size + 1) (j := 0) (by omega) (.slice ad4 (K.length + 1) cap4)
      have keep : KeepsFrom w3.heap.size A (w4.setCell ⟨w.heap.size + 1, 0, none⟩ (.slice ad4 (K.length + 1) cap4)) := ((keeps_below hbA2a).trans (keeps_grown KA hgrow4)).trans ((KeepsOthers.setCell _ _ _).from _)
      have hs5 : w3.heap.size ≤ (w4.setCell ⟨w.heap.size + 1, 0, none⟩ (.slice ad4 (K.length + 1) cap4)).heap.size := Nat.le_trans hgs keep.size
      have hT5 : ToldK w.heap.size g o cap len p m (w4.setCell ⟨w.heap.size + 1, 0, none⟩ (.slice ad4 (K.length + 1) cap4)) := HTOLD.out _ hb5 (A5.cell 0)
      have FIN : Hid (KeepsFrom w3.heap.size A (w4.setCell ⟨w.heap.size + 1, 0, none⟩ (.slice ad4 (K.length + 1) cap4)) ∧ KdS w w3.heap.size g o len cap X (((kidPl X 0).take (k + 1)).map (segAt X)) (w4.setCell ⟨w.heap.size + 1, 0, none⟩ (.slice ad4 (K.length + 1) cap4)) ∧ Cel (w4.setCell ⟨w.heap.size + 1, 0, none⟩ (.slice ad4 (K.length + 1) cap4)) w1.heap.size 22 #[.slice (some ⟨g, o, none⟩) len cap] ∧ Cel (w4.setCell ⟨w.heap.size + 1, 0, none⟩ (.slice ad4 (K.length + 1) cap4)) (w1.heap.size + 1) 3 #[.int .i64 0] ∧ w3.heap.size ≤ (w4.setCell ⟨w.heap.size + 1, 0, none⟩ (.slice ad4 (K.length + 1) cap4)).heap.size) := by
        refine ⟨keep, ⟨⟨_, _, L5, K5, ?_⟩, A5, hb5⟩, B5, C5, hs5⟩
        rw [HT.out, List.map_append, l3]
        rfl
      clear L5 A5 B5 C5 K5 keep hs5 hb5 hfin B4 C4 L4 A4
      go_simp
      refine hK.out _ _ hT5 (fun _ => ?_)
      clear hK K'
      refine wpAnyH_done (by kernel_rfl) ?_ _
      exact FIN.out
    refine AllReadyH.cons rfl (fun K' hK => ?_) AllReadyH.nil
    obtain ⟨w2a, hw2a⟩ : ∃ w2a, w2a = w2.alloc (.cells #[.slice ad2 m cap2] 22) := ⟨_, rfl⟩
    have hb2a2 : Below w2.heap.size w2 w2a := by rw [hw2a]; exact below_new _ _
    have hbA2a : Below A.heap.size A w2a := hbA2.trans (hb2a2.mono hbA2.size)
    have L1a : Cel w2a (w.heap.size + 1) 36 #[.slice adk K.length capk] := l1.below hbA2a l1.lt
    have A2a : Cel w2a w.heap.size 22 #[.slice (some ⟨g, o, none⟩) len cap] := a2.below hbA2a a2.lt
    have hb2a : Below w.heap.size w w2a := hbw2.trans (hb2a2.mono hbw2.size)
    have KA : w2a.ownsRow w3.heap.size 22 1 (.slice adk K.length capk) K.length (K.map Prod.fst) := (l2.below hbA2a).1
    have hS2a : ToldK w.heap.size g o cap len p m w2a := HTOLD.out _ hb2a (A2a.cell 0)
    have HW2 : Hid (w2a = w2.alloc (.cells #[.slice ad2 m cap2] 22)) := hw2a
    go_simp
    rw [← hw2a]
    clear hw2a
    refine hK.out _ _ hS2a (fun _ => ?_)
    clear hK K'
    try simp only [Act.put, List.getElem_toArray, List.getElem_cons_succ, List.getElem_cons_zero, List.setIfInBounds_toArray, List.set_cons_zero, List.set_cons_succ]
    refine wpAnyH_ready (rs := [0]) (by kernel_rfl) (by simp) ?_
    refine AllReadyH.cons rfl (fun K' hK => ?_) AllReadyH.nil
    have cv : w2a.cell? ⟨w.heap.size + 1, 0, none⟩ = some (.slice adk K.length capk) := L1a.cell 0
    go_simp
    refine hK.out _ _ hS2a (fun _ => ?_)
    clear hK K' cv
    try simp only [Act.put, List.getElem_toArray, List.getElem_cons_succ, List.getElem_cons_zero, List.setIfInBounds_toArray, List.set_cons_zero, List.set_cons_succ]
    refine wpAnyH_ready (rs := [13]) (by kernel_rfl) (by simp) ?_
    refine AllReadyH.cons rfl (fun K' hK => ?_) AllReadyH.nil
    refine step_append _ _ 36 rfl w3.heap.size 22 i0 _ 1 24 Tryd.underlying36 hi0 hz0 hz1' hz2 rfl (by decide) (.slice adk K.length capk) K.length (K.map Prod.fst) rfl KA ⟨w2.heap.size, 0, none⟩ 1 1 [.slice ad2 m cap2] rfl rfl (by rw [HW2.out]; exact cells_new w2 _ 22) (slice_one _ ⟨_, _, _, rfl⟩) (by have := maxLen_big; omega) (by omega) (Nat.le_trans hgs hbA2a.size) ?_
    intro v4 w4 hown4 hgrow4 _ _
    obtain ⟨ad4, cap4, rfl⟩ := owns_slice hown4
    have hfin := KdOwn.snoc (o := .cells #[.slice ad2 m cap2] 22) l2 hbA2 hgs hgs ho2 hown4 (HW2.out ▸ hgrow4)
    have L4 : Cel w4 (w.heap.size + 1) 36 #[.slice adk K.length capk] := L1a.grew KA hgrow4 (by omega)
    have A4 : Cel w4 w.heap.size 22 #[.slice (some ⟨g, o, none⟩) len cap] := A2a.grew KA hgrow4 (by omega)
    have B4 : Cel w4 w1.heap.size 22 #[.slice (some ⟨g, o, none⟩) len cap] := (a4.below hbA2a a4.lt).grew KA hgrow4 (by omega)
    have C4 : Cel w4 (w1.heap.size + 1) 3 #[.int .i64 0] := (a5.below hbA2a a5.lt).grew KA hgrow4 (by omega)
    have hb4 : Below w.heap.size w w4 := a3.trans (hfin.2.mono hws)
    have c4 : w4.cell? ⟨w.heap.size + 1, 0, none⟩ = some (.slice adk K.length capk) := L4.cell 0
    have f4 : w4.frozen? ⟨w.heap.size + 1, 0, none⟩ = false := L4.frozen 0
    refine hK.out _ _ (HTOLD.out _ hb4 (A4.cell 0)) (fun _ => ?_)
    clear hK K'
    try simp only [Act.put, List.getElem_toArray, List.getElem_cons_succ, List.getElem_cons_zero, List.setIfInBounds_toArray, List.set_cons_zero, List.set_cons_succ]
    refine wpAnyH_ready (rs := [14]) (by kernel_rfl) (by simp) ?_
    refine AllReadyH.cons rfl (fun K' hK => ?_) AllReadyH.nil
    have hb5 : Below w.heap.size w (w4.setCell ⟨w.heap.size + 1, 0, none⟩ (.slice ad4 (K.length + 1) cap4)) := hb4.setCell (p := ⟨w.heap.size + 1, 0, none⟩) (by show w.heap.size ≤ w.heap.size + 1; omega) _
    have L5 := L4.set (j := 0) (.slice ad4 (K.length + 1) cap4)
    have A5 := A4.other (b' := w.heap.size + 1) (j := 0) (by omega) (.slice ad4 (K.length + 1) cap4)
    have B5 := B4.other (b' := w.heap.size + 1) (j := 0) (by omega) (.slice ad4 (K.length + 1) cap4)
    have C5 := C4.other (b' := w.heap.size + 1) (j := 0) (by omega) (.slice ad4 (K.length + 1) cap4)
    have K5 := hfin.1.other (b := w.heap.size + 1) (j := 0) (by omega) (.slice ad4 (K.length + 1) cap4)
    have keep : KeepsFrom w3.heap.size A (w4.setCell ⟨w.heap.size + 1, 0, none⟩ (.slice ad4 (K.length + 1) cap4)) := ((keeps_below hbA2a).trans (keeps_grown KA hgrow4)).trans ((KeepsOthers.setCell _ _ _).from _)
    have hs5 : w3.heap.size ≤ (w4.setCell ⟨w.heap.size + 1, 0, none⟩ (.slice ad4 (K.length + 1) cap4)).heap.size := Nat.le_trans hgs keep.size
    have hT5 : ToldK w.heap.size g o cap len p m (w4.setCell ⟨w.heap.size + 1, 0, none⟩ (.slice ad4 (K.length + 1) cap4)) := HTOLD.out _ hb5 (A5.cell 0)
    have FIN : Hid (KeepsFrom w3.heap.size A (w4.setCell ⟨w.heap.size + 1, 0, none⟩ (.slice ad4 (K.length + 1) cap4)) ∧ KdS w w3.heap.size g o len cap X (((kidPl X 0).take (k + 1)).map (segAt X)) (w4.setCell ⟨w.heap.size + 1, 0, none⟩ (.slice ad4 (K.length + 1) cap4)) ∧ Cel (w4.setCell ⟨w.heap.size + 1, 0, none⟩ (.slice ad4 (K.length + 1) cap4)) w1.heap.size 22 #[.slice (some ⟨g, o, none⟩) len cap] ∧ Cel (w4.setCell ⟨w.heap.size + 1, 0, none⟩ (.slice ad4 (K.length + 1) cap4)) (w1.heap.size + 1) 3 #[.int .i64 0] ∧ w3.heap.size ≤ (w4.setCell ⟨w.heap.size + 1, 0, none⟩ (.slice ad4 (K.length + 1) cap4)).heap.size) := by
      refine ⟨keep, ⟨⟨_, _, L5, K5, ?_⟩, A5, hb5⟩, B5, C5, hs5⟩
      rw [HT.out, List.map_append, l3]
      rfl
    clear L5 A5 B5 C5 K5 keep hs5 hb5 hfin B4 C4 L4 A4
    go_simp
    refine hK.out _ _ hT5 (fun _ => ?_)
    clear hK K'
    refine wpAnyH_done (by kernel_rfl) ?_ _
    exact FIN.out
  case done =>
    rintro M A hM ⟨⟨⟨v, K, l1, l2, l3⟩, a2, a3⟩, a4, a5, _⟩ hh
    rw [List.take_length] at l3
    obtain ⟨adk, capk, rfl⟩ := owns_slice l2.1
    have c1 : A.cell? ⟨w.heap.size + 1, 0, none⟩ = some (.slice adk K.length capk) := l1.cell 0
    have HK : Hid (KdOwn A w3.heap.size (.slice adk K.length capk) K ∧ K.map Prod.snd = kidsL X ∧ Below w.heap.size w A) := ⟨l2, l3, a3⟩
    change Exit.inBlock _ _ Exit.normal (Act.mk _ (marksOf [M])) A
    clear l1 l2 l3 a2 a3 a4 a5
    gi_wp2
    refine leaves_marks (B := w.heap.size) [M] _ ⟨by simp, fun d hd => by simp at hd; subst hd; exact ⟨by omega, hh⟩⟩ (fun W' hb' hc' => ⟨_, results_tmp rfl _ _ _, .slice adk K.length capk, K, rfl, (HK.out.1.cel hc').lower hws, HK.out.2.1, HK.out.2.2.trans hb'⟩)
theorem kids_any (v : Value) (X : List Nd) (w : World) (hN : NdAt w v X) (h0 : 0 < X.length) (hl : X.length < 4294967296) (hX : ∀ x ∈ X, -9223372036854775808 ≤ x.size ∧ x.k ≤ 9223372036854775807) :
    Calls Tryd.prog 32 #[v] w fun e w' => ∃ v' K, e = .returned v' ∧ KdOwn w' w.heap.size v' K ∧ K.map Prod.snd = kidsL X ∧ Below w.heap.size w w' := by
  obtain ⟨x, hx⟩ : ∃ x, X[0]? = some x := ⟨_, List.getElem?_eq_getElem (by omega)⟩
  obtain ⟨g, o, cap, rfl, _⟩ := hN.at hx
  exact callsIn_wide.1 (kids_in 3 (Nat.le_refl _) g o cap X w h0 hl hX hN)
end Go.Proofs.YtfakelaibijgkaaDoor
