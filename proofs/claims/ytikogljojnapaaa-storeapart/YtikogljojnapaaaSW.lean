/- A store by what it holds. -/
import Derived.Test.YtikogljojnapaaaSame
namespace Go.Proofs.Ytikogljojnapaaa
open Go.RowKit

abbrev Vps := List (Txt × List Txt)
abbrev Fps := List (Txt × List Nd)
/-- A store of these variables and functions; its blocks lie at B or above. -/
def SW (W : World) (B sb vb fb : Nat) (F : Vps) (H : Fps) : Prop := ∃ K V G, Sto W K sb vb fb V G ∧ cont V = F ∧ cont G = H ∧ ∀ i, K i → B ≤ i
def unsP (F : Vps) (k : Txt) : Vps := if k = star then putM F star [] else delM F k
def swpP (F : Vps) (k : Txt) (b : Bool) (l : List Txt) : Vps := if b then putM F k l else unsP F k
theorem cont_uns (V : Vrs) (k : Txt) (u : Value) : cont (unsM V k u) = unsP (cont V) k := by
  unfold unsM unsP
  split
  · exact cont_put V star (u, [])
  · exact cont_del V k
theorem cont_swp (V : Vrs) (k : Txt) (b : Bool) (u : Value) (l : List Txt) : cont (swpM V k b u l) = swpP (cont V) k b l := by
  cases b
  · exact cont_uns V k u
  · exact cont_put V k (u, l)
variable {W W' : World} {B sb vb fb : Nat} {F : Vps} {H : Fps}
abbrev Tur (vb fb : Nat) (W W' : World) : Prop := Turn (fun i => i = vb ∨ i = fb) W W'
theorem SW.below (h : SW W B sb vb fb F H) (hb : Below W.heap.size W W') : SW W' B sb vb fb F H := by
  obtain ⟨K, V, G, h1, h2⟩ := h
  exact ⟨K, V, G, h1.below hb, h2⟩
theorem SW.tur (h : SW W B sb vb fb F H) (hT : Tur vb fb W W') (hB : B ≤ W.heap.size) : Below B W W' := by
  obtain ⟨K, V, G, h1, _, _, h4⟩ := h
  exact hT.below (fun i hi => by rcases hi with rfl | rfl; exact h4 _ h1.Kv; exact h4 _ h1.Kf) hB
theorem SW.row (h : SW W B sb vb fb F H) (hT : Tur vb fb W W') {C e k n : Nat} {v : Value} {xs : List Value} (ho : W.ownsRow C e k v n xs) : W'.ownsRow C e k v n xs := by
  obtain ⟨K, V, G, h1, _⟩ := h
  exact owns_turn ho hT (fun b hb e => by rcases e with rfl | rfl; exact map_apart h1.vm ho hb; exact map_apart h1.fm ho hb)
theorem SW.cel (h : SW W B sb vb fb F H) (hT : Tur vb fb W W') {b t : Nat} {cs : Array Value} (hc : Cel W b t cs) : Cel W' b t cs := by
  obtain ⟨K, V, G, h1, _⟩ := h
  exact hc.turn hT (fun e => by rcases e with rfl | rfl; exact map_apart_cel h1.vm hc rfl; exact map_apart_cel h1.fm hc rfl)
theorem SW.off (h : SW W B sb vb fb F H) (hT : Turn (fun i => B ≤ i → False) W W') : SW W' B sb vb fb F H := by
  obtain ⟨K, V, G, h1, h2, h3, h4⟩ := h
  exact ⟨K, V, G, h1.turn hT (fun i hi hn => hn (h4 i hi)), h2, h3, h4⟩
theorem getS (h : SW W B sb vb fb F H) (k : Txt) (hk : k.length ≤ maxLen) :
    Calls Try.prog 14 #[sP sb, str k] W fun e w' => ∃ v', e = .returned (.tuple #[v', .bool (hasM F k)]) ∧ w'.ownsRow W.heap.size 9 1 v' (getM F k []).length (txV (getM F k [])) ∧ Below W.heap.size W w' := by
  obtain ⟨K, V, G, h1, rfl, rfl, h4⟩ := h
  rw [cont_has, cont_get V k (.slice none 0 0) []]
  exact get_any h1 k hk
theorem funS (h : SW W B sb vb fb F H) (k : Txt) (hk : k.length ≤ maxLen) :
    Calls Try.prog 16 #[fP sb, str k] W fun e w' => ∃ v', e = .returned (.tuple #[v', .bool (hasM H k)]) ∧ NdOwn w' W.heap.size v' (getM H k []) ∧ Below W.heap.size W w' := by
  obtain ⟨K, V, G, h1, rfl, rfl, h4⟩ := h
  rw [cont_has, cont_get G k (.slice none 0 0) []]
  exact fun_any h1 k hk
theorem Stp.sw {K K' : Nat → Prop} {V : Vrs} {G : Fns} (h : Sto W' K' sb vb fb V G) (hs : Stp vb fb W K W' K') (hK : ∀ i, K i → B ≤ i) (hB : B ≤ W.heap.size) : SW W' B sb vb fb (cont V) (cont G) ∧ Tur vb fb W W' :=
  ⟨⟨K', V, G, h, rfl, rfl, fun i hi => (hs.2 i hi).elim (hK i) (Nat.le_trans hB)⟩, hs.1⟩
theorem setS (h : SW W B sb vb fb F H) (hB : B ≤ W.heap.size) (k : Txt) (hk : k.length ≤ maxLen) (v : Value) (l : List Txt) (ht : Tx W v l) (hl : l.length * 16 ≤ big) (hF : F.length < 4294967296) :
    Calls Try.prog 19 #[sP sb, str k, v] W fun e w' => e = .returned (.tuple #[]) ∧ SW w' B sb vb fb (putM F k l) H ∧ Tur vb fb W w' := by
  obtain ⟨K, V, G, h1, rfl, rfl, h4⟩ := h
  rw [cont_length] at hF
  refine (set_any h1 k hk v l ht hl hF).mono ?_
  rintro e w' ⟨rfl, u, K', h5, h6⟩
  have := Stp.sw h5 h6 h4 hB
  rw [cont_put] at this
  exact ⟨rfl, this⟩
theorem setFunS (h : SW W B sb vb fb F H) (hB : B ≤ W.heap.size) (k : Txt) (hk : k.length ≤ maxLen) (v : Value) (l : List Nd) (ht : NdAt W v l) (hl : l.length < 4294967296) (hF : H.length < 4294967296) :
    Calls Try.prog 18 #[fP sb, str k, v] W fun e w' => e = .returned (.tuple #[]) ∧ SW w' B sb vb fb F (putM H k l) ∧ Tur vb fb W w' := by
  obtain ⟨K, V, G, h1, rfl, rfl, h4⟩ := h
  rw [cont_length] at hF
  refine (setFun_any h1 k hk v l ht hl hF).mono ?_
  rintro e w' ⟨rfl, u, K', h5, h6⟩
  have := Stp.sw h5 h6 h4 hB
  rw [cont_put] at this
  exact ⟨rfl, this⟩
theorem unsetS (h : SW W B sb vb fb F H) (hB : B ≤ W.heap.size) (k : Txt) (hk : k.length ≤ maxLen) (hF : F.length < 4294967296) :
    Calls Try.prog 32 #[sP sb, str k] W fun e w' => e = .returned (.tuple #[]) ∧ SW w' B sb vb fb (unsP F k) H ∧ Tur vb fb W w' := by
  obtain ⟨K, V, G, h1, rfl, rfl, h4⟩ := h
  rw [cont_length] at hF
  refine (unset_any h1 k hk hF).mono ?_
  rintro e w' ⟨rfl, u, K', h5, h6⟩
  have := Stp.sw h5 h6 h4 hB
  rw [cont_uns] at this
  exact ⟨rfl, this⟩
theorem swapS (h : SW W B sb vb fb F H) (hB : B ≤ W.heap.size) (k : Txt) (hk : k.length ≤ maxLen) (b : Bool) (v : Value) (l : List Txt) (ht : Tx W v l) (hl : l.length * 16 ≤ big) (hF : F.length < 4294967296) :
    Calls Try.prog 20 #[sP sb, str k, .bool b, v] W fun e w' => ∃ v', e = .returned (.tuple #[v', .bool (hasM F k)]) ∧ w'.ownsRow W.heap.size 9 1 v' (getM F k []).length (txV (getM F k [])) ∧ SW w' B sb vb fb (swpP F k b l) H ∧ Tur vb fb W w' := by
  obtain ⟨K, V, G, h1, rfl, rfl, h4⟩ := h
  rw [cont_length] at hF
  rw [cont_has, cont_get V k (.slice none 0 0) []]
  refine (swap_any h1 k hk b v l ht hl hF).mono ?_
  rintro e w' ⟨v', rfl, ho, u, K', h5, h6⟩
  have := Stp.sw h5 h6 h4 hB
  rw [cont_swp] at this
  exact ⟨v', rfl, ho, this⟩
theorem setArgsS (h : SW W B sb vb fb F H) (hB : B ≤ W.heap.size) (v : Value) (l : List Txt) (ht : Tx W v l) (hl : l.length * 16 ≤ big) (hF : F.length < 4294967296) :
    Calls Try.prog 21 #[sP sb, v] W fun e w' => ∃ v', e = .returned v' ∧ w'.ownsRow W.heap.size 9 1 v' (getM F star []).length (txV (getM F star [])) ∧ SW w' B sb vb fb (putM F star l) H ∧ Tur vb fb W w' := by
  obtain ⟨K, V, G, h1, rfl, rfl, h4⟩ := h
  rw [cont_length] at hF
  rw [cont_get V star (.slice none 0 0) []]
  refine (setArgs_any h1 v l ht hl hF).mono ?_
  rintro e w' ⟨v', rfl, ho, u, K', h5, h6⟩
  have := Stp.sw h5 h6 h4 hB
  rw [cont_put] at this
  exact ⟨v', rfl, ho, this⟩
theorem argsS (h : SW W B sb vb fb F H) :
    Calls Try.prog 30 #[sP sb] W fun e w' => ∃ v', e = .returned v' ∧ w'.ownsRow W.heap.size 9 1 v' (getM F star []).length (txV (getM F star [])) ∧ Below W.heap.size W w' := by
  obtain ⟨K, V, G, h1, rfl, rfl, h4⟩ := h
  rw [cont_get V star (.slice none 0 0) []]
  exact args_any h1
theorem newS (v : Value) (X : Vrs) (W : World) (h : VaAt W v X) (hX : X.length < 65536) (hn : ∀ p ∈ X, p.1.length ≤ maxLen ∧ p.2.2.length * 16 ≤ big) :
    Calls Try.prog 8 #[v] W fun e w' => ∃ sb vb fb, e = .returned (sP sb) ∧ SW w' W.heap.size sb vb fb (newM X) [] ∧ (newM X).length ≤ X.length + 1 ∧ Below W.heap.size W w' := by
  refine (new_any v X W h hX hn).mono ?_
  rintro e w' ⟨sb, vb, fb, K, V, rfl, h1, h2, h3, h4, h5⟩
  refine ⟨sb, vb, fb, rfl, ⟨K, V, [], h1, h2, rfl, h3⟩, ?_, h5⟩
  rw [← h2, cont_length]
  exact h4
end Go.Proofs.Ytikogljojnapaaa
