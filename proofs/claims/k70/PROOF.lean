import PyProof.Rows.All
import Wide.All
import OpenK.AllK
import Wide.FinOn
import HandS.ForMost
import HandS.IsInst
import HandS.Zip
import HandS.Style
import HandS.TupAny
import HandS.Deep
import HandS.Conv
import HandS.List
import HandS.TupLe
import PyProof.Rows.SetFrom
import PyProof.ReprRoads
import KE.KIndexOf
import HandS.SetFor
import KE.KRevSl
import HandS.SortInts
import HandS.Strs
import KE.KStateDown
import PyProof.Rows.Range3
import HandS.More
import PyProof.Rows.IntBool
import PyProof.CallStr
import PyProof.ConsumeS
import PyProof.SetRoads
import KE.KDictZip
import KE.KDictItemsList
import HandS.ListItems
import PyProof.Draws
import HandS.SortRule
import HandS.Gcd
import KE.KMathGC
import PySem.Challenge.RW_putinside_k70_whole_depths
set_option Elab.async false
set_option linter.all false
set_option maxRecDepth 100000
set_option maxHeartbeats 4000000
section
/-! Trees of plain values over the hand layer: what a reading does to them. -/
namespace TX
open PySem L2

/-- a value with all that is in it -/
inductive D where
  | non | bl (b : Bool) | int (i : Int) | str (s : Str) | lst (ds : List D) | tup (ds : List D) | raw (ds : List D) | scr (ns : List Int) | set (ns : List Int) | dct (ks : List Key) (ds : List D)
  deriving Inhabited
/-- .. told apart from lists that nobody else holds, and from the box of draws -/
inductive O where
  | sh (d : D) | lst (os : List O) | dct (ks : List Key) (os : List O)
  deriving Inhabited

mutual
def Rep (K : PySem.W.Frag) (S : Hp) : D → V → Prop
  | .non, v => v = .non
  | .bl b, v => v = .bl b
  | .int i, v => v = .int i
  | .str s, v => v = .str s
  | .lst ds, v => ∃ p vs, v = .ref p ∧ S p = some (.lst vs) ∧ Reps K S ds vs
  | .tup ds, v => ∃ p vs o, v = .ref p ∧ S p = some (.frz o (.tup vs)) ∧ o.dict = none ∧ Reps K S ds vs
  | .raw ds, v => ∃ p vs, v = .ref p ∧ S p = some (.tup vs) ∧ Reps K S ds vs
  | .scr ns, v => ∃ p, v = .ref p ∧ SqL K S p (ns.map V.int)
  | .set ns, v => ∃ p n, v = .ref p ∧ S p = some (.set (fun k => decide (k ∈ ns)) n)
  | .dct ks ds, v => ∃ p vs, v = .ref p ∧ S p = some (.dK (ks.zip vs)) ∧ ks.length = ds.length ∧ Reps K S ds vs
def Reps (K : PySem.W.Frag) (S : Hp) : List D → List V → Prop
  | [], vs => vs = []
  | d :: ds, vs => ∃ v r, vs = v :: r ∧ Rep K S d v ∧ Reps K S ds r
end
abbrev Fp := Addr → Nat
mutual
def RepO (K : PySem.W.Frag) (b : Addr → Prop) (S H : Hp) : O → V → Fp → Prop
  | .sh d, v, f => Rep K S d v ∧ ∀ a, f a = 0
  | .lst os, v, f => ∃ p vs g, v = .ref p ∧ H p = some (.lst vs) ∧ RepOs K b S H os vs g ∧ ∀ a, f a = (if a = p then 1 else 0) + g a
  | .dct ks os, v, f => ∃ p vs g, v = .ref p ∧ (H p = some (.dK (ks.zip vs)) ∧ ks.length = os.length) ∧ RepOs K b S H os vs g ∧ ∀ a, f a = (if a = p then 1 else 0) + g a
def RepOs (K : PySem.W.Frag) (b : Addr → Prop) (S H : Hp) : List O → List V → Fp → Prop
  | [], vs, f => vs = [] ∧ ∀ a, f a = 0
  | o :: os, vs, f => ∃ v r f1 f2, vs = v :: r ∧ RepO K b S H o v f1 ∧ RepOs K b S H os r f2 ∧ ∀ a, f a = f1 a + f2 a
end
def RepE (K : PySem.W.Frag) (b : Addr → Prop) (S H : Hp) : List (Option O) → St → Fp → Prop
  | [], σ, f => σ = [] ∧ ∀ a, f a = 0
  | none :: sl, σ, f => ∃ x r, σ = x :: r ∧ RepE K b S H sl r f
  | some o :: sl, σ, f => ∃ v r f1 f2, σ = some v :: r ∧ RepO K b S H o v f1 ∧ RepE K b S H sl r f2 ∧ ∀ a, f a = f1 a + f2 a


/-- a def's entry: what stood, what of it was read only, what was lent, the slots as they were -/
structure Ct where
  K : PySem.W.Frag
  H_0 : Hp
  S_0 : Hp
  bx : Addr → Prop
  ar : St
  fx : List Nat
structure Env where
  sl : List (Option O)
  g : Nat
structure R (c : Ct) (S H : Hp) (ts : List O) (vs : List V) (e : Env) (σ : St) : Prop where
  rep : ∃ f1 f2, RepOs c.K c.bx S H ts vs f1 ∧ RepE c.K c.bx S H e.sl σ f2 ∧ ∀ a, f1 a + f2 a ≤ 1 ∧ (f1 a + f2 a = 1 → S a = none ∧ (c.H_0 a = none ∨ c.bx a))
  sub : Same S H
  ext : Same c.S_0 S
  new : ∀ q, S q ≠ none → c.S_0 q ≠ none ∨ c.H_0 q = none ∨ c.bx q
  fr : ∀ q o, c.H_0 q = some o → ¬ c.bx q → H q = some o
  dom : ∀ q, c.H_0 q ≠ none → H q ≠ none
  fix : ∀ i ∈ c.fx, σ[i]? = c.ar[i]?

section
variable {K : PySem.W.Frag} {b : Addr → Prop} {S S' H H' : Hp}
theorem seqT (e : Same S S') {a : Addr} {xs : List V} (h : SqT K S a xs) : SqT K S' a xs := by
  rcases h with (h | ⟨o, h⟩) | h
  · exact .inl (.inl (e _ _ h))
  · exact .inl (.inr ⟨o, e _ _ h⟩)
  · exact .inr h
mutual
theorem Rep.mono (e : Same S S') : ∀ (d : D) (v : V), Rep K S d v → Rep K S' d v
  | .non, _, h => h
  | .bl _, _, h => h
  | .int _, _, h => h
  | .str _, _, h => h
  | .lst ds, _, h => by
    simp only [Rep] at h ⊢
    obtain ⟨p, vs, h1, h2, h3⟩ := h
    exact ⟨p, vs, h1, e _ _ h2, Reps.mono e ds vs h3⟩
  | .tup ds, _, h => by
    simp only [Rep] at h ⊢
    obtain ⟨p, vs, o, h1, h2, h3, h4⟩ := h
    exact ⟨p, vs, o, h1, e _ _ h2, h3, Reps.mono e ds vs h4⟩
  | .raw ds, _, h => by
    simp only [Rep] at h ⊢
    obtain ⟨p, vs, h1, h2, h3⟩ := h
    exact ⟨p, vs, h1, e _ _ h2, Reps.mono e ds vs h3⟩
  | .scr ns, _, h => by
    simp only [Rep] at h ⊢
    obtain ⟨p, h1, h2⟩ := h
    exact ⟨p, h1, Same.seq e h2⟩
  | .set ns, _, h => by
    simp only [Rep] at h ⊢
    obtain ⟨p, n, h1, h2⟩ := h
    exact ⟨p, n, h1, e _ _ h2⟩
  | .dct ks ds, _, h => by
    simp only [Rep] at h ⊢
    obtain ⟨p, vs, h1, h2, h0, h3⟩ := h
    exact ⟨p, vs, h1, e _ _ h2, h0, Reps.mono e ds vs h3⟩
theorem Reps.mono (e : Same S S') : ∀ (ds : List D) (vs : List V), Reps K S ds vs → Reps K S' ds vs
  | [], _, h => h
  | d :: ds, vs, h => by
    simp only [Reps] at h ⊢
    obtain ⟨v, r, h1, h2, h3⟩ := h
    exact ⟨v, r, h1, Rep.mono e d v h2, Reps.mono e ds r h3⟩
end
mutual
theorem RepO.mono (e : Same S S') : ∀ (o : O) (v : V) (f : Fp), RepO K b S H o v f → (∀ a, f a ≠ 0 → H' a = H a) → RepO K b S' H' o v f
  | .sh d, v, f, h, _ => by
    simp only [RepO] at h ⊢
    exact ⟨Rep.mono e d v h.1, h.2⟩
  | .lst os, v, f, h, k => by
    simp only [RepO] at h ⊢
    obtain ⟨p, vs, g, h1, h2, h3, h4⟩ := h
    refine ⟨p, vs, g, h1, ?_, RepOs.mono e os vs g h3 (fun a z => k a ?_), h4⟩
    · rw [k p ?_, h2]
      rw [h4 p, if_pos rfl]
      omega
    · rw [h4 a]
      omega
  | .dct ks os, v, f, h, k => by
    simp only [RepO] at h ⊢
    obtain ⟨p, vs, g, h1, ⟨h2, h0⟩, h3, h4⟩ := h
    refine ⟨p, vs, g, h1, ⟨?_, h0⟩, RepOs.mono e os vs g h3 (fun a z => k a ?_), h4⟩
    · rw [k p ?_, h2]
      rw [h4 p, if_pos rfl]
      omega
    · rw [h4 a]
      omega
theorem RepOs.mono (e : Same S S') : ∀ (os : List O) (vs : List V) (f : Fp), RepOs K b S H os vs f → (∀ a, f a ≠ 0 → H' a = H a) → RepOs K b S' H' os vs f
  | [], _, _, h, _ => by
    simp only [RepOs] at h ⊢
    exact h
  | o :: os, vs, f, h, k => by
    simp only [RepOs] at h ⊢
    obtain ⟨v, r, f1, f2, h1, h2, h3, h4⟩ := h
    refine ⟨v, r, f1, f2, h1, RepO.mono e o v f1 h2 (fun a z => k a ?_), RepOs.mono e os r f2 h3 (fun a z => k a ?_), h4⟩
    · rw [h4 a]
      omega
    · rw [h4 a]
      omega
end
theorem RepE.mono (e : Same S S') : ∀ (sl : List (Option O)) (σ : St) (f : Fp), RepE K b S H sl σ f → (∀ a, f a ≠ 0 → H' a = H a) → RepE K b S' H' sl σ f
  | [], _, _, h, _ => by
    simp only [RepE] at h ⊢
    exact h
  | none :: sl, σ, f, h, k => by
    simp only [RepE] at h ⊢
    obtain ⟨x, r, h1, h2⟩ := h
    exact ⟨x, r, h1, RepE.mono e sl r f h2 k⟩
  | some o :: sl, σ, f, h, k => by
    simp only [RepE] at h ⊢
    obtain ⟨v, r, f1, f2, h1, h2, h3, h4⟩ := h
    refine ⟨v, r, f1, f2, h1, RepO.mono e o v f1 h2 (fun a z => k a ?_), RepE.mono e sl r f2 h3 (fun a z => k a ?_), h4⟩
    · rw [h4 a]
      omega
    · rw [h4 a]
      omega
theorem RepO.fpc : ∀ {o : O} {v : V} {f g : Fp}, RepO K b S H o v f → (∀ a, g a = f a) → RepO K b S H o v g
  | .sh d, v, f, g, h, k => by
    simp only [RepO] at h ⊢
    exact ⟨h.1, fun a => by rw [k, h.2]⟩
  | .lst os, v, f, g, h, k => by
    simp only [RepO] at h ⊢
    obtain ⟨p, vs, g', h1, h2, h3, h4⟩ := h
    exact ⟨p, vs, g', h1, h2, h3, fun a => by rw [k, h4]⟩
  | .dct ks os, v, f, g, h, k => by
    simp only [RepO] at h ⊢
    obtain ⟨p, vs, g', h1, h2, h3, h4⟩ := h
    exact ⟨p, vs, g', h1, h2, h3, fun a => by rw [k, h4]⟩
theorem RepOs.fpc : ∀ {os : List O} {vs : List V} {f g : Fp}, RepOs K b S H os vs f → (∀ a, g a = f a) → RepOs K b S H os vs g
  | [], _, _, _, h, k => by
    simp only [RepOs] at h ⊢
    exact ⟨h.1, fun a => by rw [k, h.2]⟩
  | o :: os, vs, f, g, h, k => by
    simp only [RepOs] at h ⊢
    obtain ⟨v, r, f1, f2, h1, h2, h3, h4⟩ := h
    exact ⟨v, r, f1, f2, h1, h2, h3, fun a => by rw [k, h4]⟩
theorem RepOs.len : ∀ {os : List O} {vs : List V} {f : Fp}, RepOs K b S H os vs f → vs.length = os.length
  | [], _, _, h => by
    simp only [RepOs] at h
    rw [h.1]
    rfl
  | o :: os, vs, f, h => by
    simp only [RepOs] at h
    obtain ⟨v, r, f1, f2, h1, h2, h3, h4⟩ := h
    rw [h1, List.length_cons, List.length_cons, RepOs.len h3]
theorem Reps.len : ∀ {ds : List D} {vs : List V}, Reps K S ds vs → vs.length = ds.length
  | [], _, h => by
    simp only [Reps] at h
    rw [h]
    rfl
  | d :: ds, vs, h => by
    simp only [Reps] at h
    obtain ⟨v, r, h1, h2, h3⟩ := h
    rw [h1, List.length_cons, List.length_cons, Reps.len h3]
theorem RepE.len : ∀ {sl : List (Option O)} {σ : St} {f : Fp}, RepE K b S H sl σ f → σ.length = sl.length
  | [], _, _, h => by
    simp only [RepE] at h
    rw [h.1]
    rfl
  | none :: sl, σ, f, h => by
    simp only [RepE] at h
    obtain ⟨x, r, h1, h2⟩ := h
    rw [h1, List.length_cons, List.length_cons, RepE.len h2]
  | some o :: sl, σ, f, h => by
    simp only [RepE] at h
    obtain ⟨v, r, f1, f2, h1, h2, h3, h4⟩ := h
    rw [h1, List.length_cons, List.length_cons, RepE.len h3]
theorem RepOs.app : ∀ {os ps : List O} {us vs : List V} {f g : Fp}, RepOs K b S H os us f → RepOs K b S H ps vs g → RepOs K b S H (os ++ ps) (us ++ vs) fun a => f a + g a
  | [], ps, us, vs, f, g, h, k => by
    simp only [RepOs] at h
    rw [h.1]
    exact k.fpc fun a => by rw [h.2]; omega
  | o :: os, ps, us, vs, f, g, h, k => by
    simp only [RepOs] at h
    obtain ⟨v, r, f1, f2, h1, h2, h3, h4⟩ := h
    rw [h1]
    simp only [List.cons_append, RepOs]
    exact ⟨v, _, f1, _, rfl, h2, RepOs.app h3 k, fun a => by rw [h4]; omega⟩
theorem RepOs.split : ∀ {os ps : List O} {us vs : List V} {f : Fp}, RepOs K b S H (os ++ ps) (us ++ vs) f → us.length = os.length → ∃ f1 f2, RepOs K b S H os us f1 ∧ RepOs K b S H ps vs f2 ∧ ∀ a, f a = f1 a + f2 a
  | [], ps, us, vs, f, h, l => by
    have e : us = [] := List.length_eq_zero_iff.mp l
    subst e
    exact ⟨fun _ => 0, f, by simp [RepOs], h, fun a => (by first | omega | (dsimp only; omega) | (simp only; omega))⟩
  | o :: os, ps, us, vs, f, h, l => by
    simp only [List.cons_append, RepOs] at h
    obtain ⟨v, r, f1, f2, h1, h2, h3, h4⟩ := h
    cases us with
    | nil => simp at l
    | cons u us =>
      simp only [List.cons_append, List.cons.injEq] at h1
      obtain ⟨e1, e2⟩ := h1
      subst e1 e2
      obtain ⟨g1, g2, k1, k2, k3⟩ := RepOs.split h3 (by simpa using l)
      exact ⟨fun a => f1 a + g1 a, g2, by simp only [RepOs]; exact ⟨u, us, f1, g1, rfl, h2, k1, fun _ => rfl⟩, k2, fun a => by dsimp only; rw [h4, k3]; omega⟩
theorem RepE.get : ∀ {sl : List (Option O)} {σ : St} {f : Fp} {i : Nat} {d : D}, RepE K b S H sl σ f → sl[i]? = some (some (.sh d)) → ∃ v, σ[i]? = some (some v) ∧ Rep K S d v
  | [], _, _, i, d, h, e => by simp at e
  | none :: sl, σ, f, 0, d, h, e => by simp at e
  | none :: sl, σ, f, i + 1, d, h, e => by
    simp only [RepE] at h
    obtain ⟨x, r, rfl, h2⟩ := h
    obtain ⟨v, k1, k2⟩ := RepE.get h2 (by simpa using e)
    exact ⟨v, by simpa using k1, k2⟩
  | some o :: sl, σ, f, 0, d, h, e => by
    simp only [RepE] at h
    obtain ⟨v, r, f1, f2, rfl, h2, h3, h4⟩ := h
    have e' : o = .sh d := by simpa using e
    subst e'
    simp only [RepO] at h2
    exact ⟨v, rfl, h2.1⟩
  | some o :: sl, σ, f, i + 1, d, h, e => by
    simp only [RepE] at h
    obtain ⟨v, r, f1, f2, rfl, h2, h3, h4⟩ := h
    obtain ⟨v', k1, k2⟩ := RepE.get h3 (by simpa using e)
    exact ⟨v', by simpa using k1, k2⟩
/-- a slot taken out: what is left, and what goes in -/
theorem RepE.take : ∀ {sl : List (Option O)} {σ : St} {f : Fp} {i : Nat} {o : O}, RepE K b S H sl σ f → sl[i]? = some (some o) →
    ∃ v f1 f2, σ[i]? = some (some v) ∧ RepO K b S H o v f1 ∧ RepE K b S H (sl.set i none) σ f2 ∧ (∀ a, f a = f1 a + f2 a)
  | [], _, _, i, o, h, e => by simp at e
  | none :: sl, σ, f, 0, o, h, e => by simp at e
  | none :: sl, σ, f, i + 1, o, h, e => by
    simp only [RepE] at h
    obtain ⟨x, r, rfl, h2⟩ := h
    obtain ⟨v, f1, f2, k1, k2, k3, k4⟩ := RepE.take h2 (by simpa using e)
    exact ⟨v, f1, f2, by simpa using k1, k2, by simp only [List.set_cons_succ, RepE]; exact ⟨x, r, rfl, k3⟩, k4⟩
  | some o' :: sl, σ, f, 0, o, h, e => by
    simp only [RepE] at h
    obtain ⟨v, r, f1, f2, rfl, h2, h3, h4⟩ := h
    have e' : o' = o := by simpa using e
    subst e'
    exact ⟨v, f1, f2, rfl, h2, by simp only [List.set_cons_zero, RepE]; exact ⟨some v, r, rfl, h3⟩, h4⟩
  | some o' :: sl, σ, f, i + 1, o, h, e => by
    simp only [RepE] at h
    obtain ⟨v, r, f1, f2, rfl, h2, h3, h4⟩ := h
    obtain ⟨v', g1, g2, k1, k2, k3, k4⟩ := RepE.take h3 (by simpa using e)
    exact ⟨v', g1, fun a => f1 a + g2 a, by simpa using k1, k2, by simp only [List.set_cons_succ, RepE]; exact ⟨v, r, f1, g2, rfl, h2, k3, fun _ => rfl⟩, fun a => by dsimp only; rw [h4, k4]; omega⟩
/-- a slot filled; what it held is dropped -/
theorem RepE.put : ∀ {sl : List (Option O)} {σ : St} {f f1 : Fp} {i : Nat} {o : O} {v : V}, RepE K b S H sl σ f → RepO K b S H o v f1 →
    ∃ f2, RepE K b S H (sl.set i (some o)) (σ.set i (some v)) f2 ∧ ∀ a, f2 a ≤ f1 a + f a
  | [], σ, f, f1, i, o, v, h, k => by
    simp only [RepE] at h
    obtain ⟨rfl, h2⟩ := h
    exact ⟨f, by simp only [List.set_nil, RepE]; exact ⟨trivial, h2⟩, fun a => (by first | omega | (dsimp only; omega) | (simp only; omega))⟩
  | none :: sl, σ, f, f1, 0, o, v, h, k => by
    simp only [RepE] at h
    obtain ⟨x, r, rfl, h2⟩ := h
    exact ⟨fun a => f1 a + f a, by simp only [List.set_cons_zero, RepE]; exact ⟨v, r, f1, f, rfl, k, h2, fun _ => rfl⟩, fun a => (by first | omega | (dsimp only; omega) | (simp only; omega))⟩
  | none :: sl, σ, f, f1, i + 1, o, v, h, k => by
    simp only [RepE] at h
    obtain ⟨x, r, rfl, h2⟩ := h
    obtain ⟨f2, k1, k2⟩ := RepE.put (i := i) h2 k
    exact ⟨f2, by simp only [List.set_cons_succ, RepE]; exact ⟨x, _, rfl, k1⟩, k2⟩
  | some o' :: sl, σ, f, f1, 0, o, v, h, k => by
    simp only [RepE] at h
    obtain ⟨w, r, g1, g2, rfl, h2, h3, h4⟩ := h
    exact ⟨fun a => f1 a + g2 a, by simp only [List.set_cons_zero, RepE]; exact ⟨v, r, f1, g2, rfl, k, h3, fun _ => rfl⟩, fun a => by dsimp only; rw [h4]; omega⟩
  | some o' :: sl, σ, f, f1, i + 1, o, v, h, k => by
    simp only [RepE] at h
    obtain ⟨w, r, g1, g2, rfl, h2, h3, h4⟩ := h
    obtain ⟨f2, k1, k2⟩ := RepE.put (i := i) h3 k
    exact ⟨fun a => g1 a + f2 a, by simp only [List.set_cons_succ, RepE]; exact ⟨w, _, g1, f2, rfl, h2, k1, fun _ => rfl⟩, fun a => by dsimp only; rw [h4]; have := k2 a; omega⟩
/-- slots forgotten -/
theorem RepE.drop1 : ∀ {sl : List (Option O)} {σ : St} {f : Fp} {i : Nat} {x : Option V}, RepE K b S H sl σ f → ∃ f2, RepE K b S H (sl.set i none) (σ.set i x) f2 ∧ ∀ a, f2 a ≤ f a
  | [], σ, f, i, x, h => by
    simp only [RepE] at h
    obtain ⟨rfl, h2⟩ := h
    exact ⟨f, by simp only [List.set_nil, RepE]; exact ⟨trivial, h2⟩, fun a => (by first | omega | (dsimp only; omega) | (simp only; omega))⟩
  | none :: sl, σ, f, 0, x, h => by
    simp only [RepE] at h
    obtain ⟨y, r, rfl, h2⟩ := h
    exact ⟨f, by simp only [List.set_cons_zero, RepE]; exact ⟨x, r, rfl, h2⟩, fun a => (by first | omega | (dsimp only; omega) | (simp only; omega))⟩
  | none :: sl, σ, f, i + 1, x, h => by
    simp only [RepE] at h
    obtain ⟨y, r, rfl, h2⟩ := h
    obtain ⟨f2, k1, k2⟩ := RepE.drop1 (i := i) (x := x) h2
    exact ⟨f2, by simp only [List.set_cons_succ, RepE]; exact ⟨y, _, rfl, k1⟩, k2⟩
  | some o' :: sl, σ, f, 0, x, h => by
    simp only [RepE] at h
    obtain ⟨w, r, g1, g2, rfl, h2, h3, h4⟩ := h
    exact ⟨g2, by simp only [List.set_cons_zero, RepE]; exact ⟨x, r, rfl, h3⟩, fun a => by rw [h4]; omega⟩
  | some o' :: sl, σ, f, i + 1, x, h => by
    simp only [RepE] at h
    obtain ⟨w, r, g1, g2, rfl, h2, h3, h4⟩ := h
    obtain ⟨f2, k1, k2⟩ := RepE.drop1 (i := i) (x := x) h3
    exact ⟨fun a => g1 a + f2 a, by simp only [List.set_cons_succ, RepE]; exact ⟨w, _, g1, f2, rfl, h2, k1, fun _ => rfl⟩, fun a => by dsimp only; rw [h4]; have := k2 a; omega⟩
end

/-! ### freezing -/
mutual
def toD : O → D
  | .sh d => d
  | .lst os => .lst (toDs os)
  | .dct ks os => .dct ks (toDs os)
def toDs : List O → List D
  | [] => []
  | o :: os => toD o :: toDs os
end
mutual
def nobx : O → Bool
  | .sh _ => true
  | .lst os => nobxs os
  | .dct _ os => nobxs os
def nobxs : List O → Bool
  | [] => true
  | o :: os => nobx o && nobxs os
end
section
variable {K : PySem.W.Frag} {b : Addr → Prop} {S S' H H' : Hp}
theorem toDs_len0 : ∀ os : List O, (toDs os).length = os.length
  | [] => rfl
  | o :: os => by simp only [toDs, List.length_cons, toDs_len0 os]
mutual
theorem RepO.frz (e : Same S S') : ∀ (o : O) (v : V) (f : Fp), nobx o = true → RepO K b S H o v f → (∀ a, f a ≠ 0 → S' a = H a) → Rep K S' (toD o) v
  | .sh d, v, f, _, h, _ => by
    simp only [RepO] at h
    simp only [toD]
    exact Rep.mono e d v h.1
  | .lst os, v, f, n, h, k => by
    simp only [RepO] at h
    obtain ⟨p, vs, g, h1, h2, h3, h4⟩ := h
    simp only [toD, Rep]
    refine ⟨p, vs, h1, ?_, RepOs.frz e os vs g (by simpa [nobx] using n) h3 fun a z => k a (by rw [h4]; omega)⟩
    rw [k p (by rw [h4, if_pos rfl]; omega), h2]
  | .dct ks os, v, f, n, h, k => by
    simp only [RepO] at h
    obtain ⟨p, vs, g, h1, ⟨h2, h0⟩, h3, h4⟩ := h
    simp only [toD, Rep]
    refine ⟨p, vs, h1, ?_, by rw [h0, toDs_len0], RepOs.frz e os vs g (by simpa [nobx] using n) h3 fun a z => k a (by rw [h4]; omega)⟩
    rw [k p (by rw [h4, if_pos rfl]; omega), h2]
theorem RepOs.frz (e : Same S S') : ∀ (os : List O) (vs : List V) (f : Fp), nobxs os = true → RepOs K b S H os vs f → (∀ a, f a ≠ 0 → S' a = H a) → Reps K S' (toDs os) vs
  | [], vs, f, _, h, _ => by
    simp only [RepOs] at h
    simp only [toDs, Reps]
    exact h.1
  | o :: os, vs, f, n, h, k => by
    simp only [RepOs] at h
    obtain ⟨v, r, f1, f2, h1, h2, h3, h4⟩ := h
    simp only [nobxs, Bool.and_eq_true] at n
    simp only [toDs, Reps]
    exact ⟨v, r, h1, RepO.frz e o v f1 n.1 h2 fun a z => k a (by rw [h4]; omega), RepOs.frz e os r f2 n.2 h3 fun a z => k a (by rw [h4]; omega)⟩
end
end
mutual
theorem nobx_all : ∀ o : O, nobx o = true
  | .sh _ => rfl
  | .lst os => by
    show nobxs os = true
    exact nobxs_all os
  | .dct _ os => by
    show nobxs os = true
    exact nobxs_all os
theorem nobxs_all : ∀ os : List O, nobxs os = true
  | [] => rfl
  | o :: os => by
    simp only [nobxs, nobx_all o, nobxs_all os, Bool.and_self]
end
theorem toDs_map : ∀ ds : List D, toDs (ds.map O.sh) = ds
  | [] => rfl
  | d :: ds => by
    simp only [List.map_cons, toDs, toD, toDs_map ds]
theorem nobxs_map : ∀ ds : List D, nobxs (ds.map O.sh) = true
  | [] => rfl
  | d :: ds => by
    simp only [List.map_cons, nobxs, nobx, nobxs_map ds, Bool.and_self]
theorem toDs_mapf {α : Type} (f : α → D) : ∀ xs : List α, toDs (xs.map fun x => O.sh (f x)) = xs.map f
  | [] => rfl
  | d :: ds => by
    simp only [List.map_cons, toDs, toD, toDs_mapf f ds]
theorem nobxs_mapf {α : Type} (f : α → D) : ∀ xs : List α, nobxs (xs.map fun x => O.sh (f x)) = true
  | [] => rfl
  | d :: ds => by
    simp only [List.map_cons, nobxs, nobx, nobxs_mapf f ds, Bool.and_self]

section
variable {c : Ct} {S H : Hp} {ts : List O} {vs : List V} {e : Env} {σ : St} {o : O} {v : V}
theorem R.freeze (r : R c S H (o :: ts) (v :: vs) e σ) (n : nobx o = true) : ∃ S', Same S S' ∧ R c S' H (.sh (toD o) :: ts) (v :: vs) e σ := by
  obtain ⟨f1, f2, h1, h2, h3⟩ := r.rep
  simp only [RepOs] at h1
  obtain ⟨v', r', g1, g2, e1, k1, k2, k3⟩ := h1
  obtain ⟨rfl, rfl⟩ := List.cons.inj e1
  have sm : Same S (fun a => if g1 a = 0 then S a else H a) := fun a u ha => by
    by_cases z : g1 a = 0
    · simp only [z, if_true]
      exact ha
    · have := (h3 a).1
      have w := ((h3 a).2 (by rw [k3] at this ⊢; omega)).1
      rw [w] at ha
      cases ha
  refine ⟨fun a => if g1 a = 0 then S a else H a, sm, ⟨⟨g2, f2, ?_, RepE.mono sm _ _ _ h2 fun _ _ => rfl, fun a => ⟨?_, fun z => ?_⟩⟩, fun a u ha => ?_, fun a u ha => sm a u (r.ext a u ha), fun q hq => ?_, r.fr, r.dom, r.fix⟩⟩
  · simp only [RepOs]
    refine ⟨v, vs, fun _ => 0, g2, rfl, ?_, RepOs.mono sm _ _ _ k2 fun _ _ => rfl, fun a => (by first | omega | (dsimp only; omega) | (simp only; omega))⟩
    simp only [RepO]
    exact ⟨RepO.frz sm _ _ _ n k1 fun a z => by simp only [z, if_false], fun _ => trivial⟩
  · have := (h3 a).1
    rw [k3] at this
    omega
  · have y := (h3 a).1
    rw [k3] at y
    have x := (h3 a).2 (by rw [k3]; omega)
    have z0 : g1 a = 0 := by omega
    simp only [z0, if_true]
    exact x
  · by_cases z : g1 a = 0
    · simp only [z, if_true] at ha
      exact r.sub a u ha
    · simp only [z, if_false] at ha
      exact ha
  · by_cases z : g1 q = 0
    · simp only [z, if_true] at hq
      exact r.new q hq
    · have y := (h3 q).1
      rw [k3] at y
      exact .inr ((h3 q).2 (by rw [k3]; omega)).2
theorem R.top (r : R c S H (.sh d :: ts) (v :: vs) e σ) : Rep c.K S d v := by
  obtain ⟨f1, f2, h1, h2, h3⟩ := r.rep
  simp only [RepOs, RepO] at h1
  obtain ⟨v', r', g1, g2, e1, k1, k2, k3⟩ := h1
  obtain ⟨rfl, rfl⟩ := List.cons.inj e1
  exact k1.1
theorem R.top2 (r : R c S H (o :: .sh d :: ts) (u :: v :: vs) e σ) : Rep c.K S d v := by
  obtain ⟨f1, f2, h1, h2, h3⟩ := r.rep
  simp only [RepOs, RepO] at h1
  obtain ⟨v', r', g1, g2, e1, k1, k2, k3⟩ := h1
  obtain ⟨rfl, rfl⟩ := List.cons.inj e1
  obtain ⟨v', r', g1, g2, e1, k1, k2, k3⟩ := k2
  obtain ⟨rfl, rfl⟩ := List.cons.inj e1
  exact k1.1
theorem R.pop (r : R c S H (o :: ts) (v :: vs) e σ) : R c S H ts vs e σ := by
  obtain ⟨f1, f2, h1, h2, h3⟩ := r.rep
  simp only [RepOs] at h1
  obtain ⟨v', r', g1, g2, e1, k1, k2, k3⟩ := h1
  obtain ⟨rfl, rfl⟩ := List.cons.inj e1
  exact ⟨⟨g2, f2, k2, h2, fun a => ⟨by have := (h3 a).1; rw [k3] at this; omega, fun z => (h3 a).2 (by have := (h3 a).1; rw [k3] at this ⊢; omega)⟩⟩, r.sub, r.ext, r.new, r.fr, r.dom, r.fix⟩
/-- a shared value comes on top -/
theorem R.push (r : R c S H ts vs e σ) (h : Rep c.K S d v) : R c S H (.sh d :: ts) (v :: vs) e σ := by
  obtain ⟨f1, f2, h1, h2, h3⟩ := r.rep
  refine ⟨⟨f1, f2, ?_, h2, h3⟩, r.sub, r.ext, r.new, r.fr, r.dom, r.fix⟩
  simp only [RepOs, RepO]
  exact ⟨v, vs, fun _ => 0, f1, rfl, ⟨h, fun _ => rfl⟩, h1, fun a => (by first | omega | (dsimp only; omega) | (simp only; omega))⟩
theorem R.swap (r : R c S H (o :: o' :: ts) (v :: v' :: vs) e σ) : R c S H (o' :: o :: ts) (v' :: v :: vs) e σ := by
  obtain ⟨f1, f2, h1, h2, h3⟩ := r.rep
  simp only [RepOs] at h1
  obtain ⟨w, r', g1, g2, e1, k1, k2, k3⟩ := h1
  obtain ⟨rfl, rfl⟩ := List.cons.inj e1
  obtain ⟨w', r', q1, q2, e1, l1, l2, l3⟩ := k2
  obtain ⟨rfl, rfl⟩ := List.cons.inj e1
  refine ⟨⟨f1, f2, ?_, h2, h3⟩, r.sub, r.ext, r.new, r.fr, r.dom, r.fix⟩
  simp only [RepOs]
  exact ⟨_, _, q1, fun a => g1 a + q2 a, rfl, l1, ⟨_, _, g1, q2, rfl, k1, l2, fun _ => rfl⟩, fun a => by dsimp only; rw [k3, l3]; omega⟩
/-- a value from beneath a block of others comes on top -/
theorem R.rot {os : List O} {us : List V} (r : R c S H (os ++ o :: ts) (us ++ v :: vs) e σ) (l : us.length = os.length) : R c S H ((o :: os) ++ ts) ((v :: us) ++ vs) e σ := by
  obtain ⟨f1, f2, h1, h2, h3⟩ := r.rep
  obtain ⟨g1, g2, k1, k2, k3⟩ := h1.split l
  simp only [RepOs] at k2
  obtain ⟨w, r', q1, q2, e1, l1, l2, l3⟩ := k2
  obtain ⟨rfl, rfl⟩ := List.cons.inj e1
  refine ⟨⟨f1, f2, ?_, h2, h3⟩, r.sub, r.ext, r.new, r.fr, r.dom, r.fix⟩
  simp only [List.cons_append, RepOs]
  exact ⟨v, _, q1, _, rfl, l1, RepOs.app k1 l2, fun a => by rw [k3, l3]; omega⟩
theorem R.h0 (r : R c S H ts vs e σ) {p : Addr} (hp : H p = none) : c.H_0 p = none := by
  cases q : c.H_0 p with
  | none => rfl
  | some u => exact absurd hp (r.dom p (by rw [q]; exact Option.some_ne_none _))
theorem R.s0 (r : R c S H ts vs e σ) {p : Addr} (hp : H p = none) : S p = none := r.sub.free hp
theorem Same.new {H : Hp} {p : Addr} {u : HO} (hp : H p = none) : Same H (upd H p u) := fun a w ha => by
  rw [upd_ne (ne_of_none ha hp)]
  exact ha
theorem dom_upd {H0 H : Hp} {p : Addr} {u : HO} (h : ∀ q, H0 q ≠ none → H q ≠ none) : ∀ q, H0 q ≠ none → (upd H p u) q ≠ none := fun q z => by
  by_cases e : q = p
  · subst e
    rw [upd_same]
    exact Option.some_ne_none _
  · rw [upd_ne e]
    exact h q z
mutual
theorem RepO.laid {K : PySem.W.Frag} {b : Addr → Prop} : ∀ (o : O) (v : V) (f : Fp), RepO K b S H o v f → ∀ a, f a ≠ 0 → H a ≠ none
  | .sh d, v, f, h, a, z => by
    simp only [RepO] at h
    exact absurd (h.2 a) z
  | .lst os, v, f, h, a, z => by
    simp only [RepO] at h
    obtain ⟨p, vs, g, h1, h2, h3, h4⟩ := h
    by_cases e : a = p
    · rw [e, h2]
      exact Option.some_ne_none _
    · refine RepOs.laid os vs g h3 a ?_
      have := h4 a
      rw [if_neg e] at this
      omega
  | .dct ks os, v, f, h, a, z => by
    simp only [RepO] at h
    obtain ⟨p, vs, g, h1, ⟨h2, _⟩, h3, h4⟩ := h
    by_cases e : a = p
    · rw [e, h2]
      exact Option.some_ne_none _
    · refine RepOs.laid os vs g h3 a ?_
      have := h4 a
      rw [if_neg e] at this
      omega
theorem RepOs.laid {K : PySem.W.Frag} {b : Addr → Prop} : ∀ (os : List O) (vs : List V) (f : Fp), RepOs K b S H os vs f → ∀ a, f a ≠ 0 → H a ≠ none
  | [], vs, f, h, a, z => by
    simp only [RepOs] at h
    exact absurd (h.2 a) z
  | o :: os, vs, f, h, a, z => by
    simp only [RepOs] at h
    obtain ⟨v, r, f1, f2, h1, h2, h3, h4⟩ := h
    have := h4 a
    by_cases e : f1 a = 0
    · exact RepOs.laid os r f2 h3 a (by omega)
    · exact RepO.laid o v f1 h2 a e
end
theorem RepE.laid {K : PySem.W.Frag} {b : Addr → Prop} : ∀ (sl : List (Option O)) (σ : St) (f : Fp), RepE K b S H sl σ f → ∀ a, f a ≠ 0 → H a ≠ none
  | [], vs, f, h, a, z => by
    simp only [RepE] at h
    exact absurd (h.2 a) z
  | none :: sl, σ, f, h, a, z => by
    simp only [RepE] at h
    obtain ⟨x, r, h1, h2⟩ := h
    exact RepE.laid sl r f h2 a z
  | some o :: sl, σ, f, h, a, z => by
    simp only [RepE] at h
    obtain ⟨v, r, f1, f2, h1, h2, h3, h4⟩ := h
    have := h4 a
    by_cases e : f1 a = 0
    · exact RepE.laid sl r f2 h3 a (by omega)
    · exact RepO.laid o v f1 h2 a e
/-- a new list of the values on top -/
theorem R.list {os : List O} {us : List V} {p : Addr} (r : R c S H (os ++ ts) (us ++ vs) e σ) (l : us.length = os.length) (hp : H p = none) : R c S (upd H p (.lst us)) (.lst os :: ts) (.ref p :: vs) e σ := by
  obtain ⟨f1, f2, h1, h2, h3⟩ := r.rep
  obtain ⟨g1, g2, k1, k2, k3⟩ := h1.split l
  have q1 := r.h0 hp
  have s1 : Same H (upd H p (.lst us)) := Same.new hp
  have un : ∀ {f : Fp} (a : Addr), f a ≠ 0 → (f a ≠ 0 → H a ≠ none) → (upd H p (.lst us)) a = H a := fun a z w => upd_ne fun e => w z (by rw [e]; exact hp)
  have z0 : f1 p = 0 ∧ f2 p = 0 := by
    constructor
    · by_cases z : f1 p = 0
      · exact z
      · exact absurd hp (RepOs.laid _ _ _ h1 p z)
    · by_cases z : f2 p = 0
      · exact z
      · exact absurd hp (RepE.laid _ _ _ h2 p z)
  refine ⟨⟨fun a => ((if a = p then 1 else 0) + g1 a) + g2 a, f2, ?_, RepE.mono (Same.refl S) _ _ _ h2 fun a z => un (f := f2) a z (RepE.laid _ _ _ h2 a), fun a => ?_⟩, r.sub.trans s1, r.ext, r.new, fun a u ha hb => s1 a u (r.fr a u ha hb), dom_upd r.dom, r.fix⟩
  · simp only [RepOs]
    refine ⟨_, _, _, g2, rfl, ?_, RepOs.mono (Same.refl S) _ _ _ k2 fun a z => un (f := g2) a z (RepOs.laid _ _ _ k2 a), fun _ => rfl⟩
    simp only [RepO]
    exact ⟨p, us, g1, rfl, upd_same, RepOs.mono (Same.refl S) _ _ _ k1 fun a z => un (f := g1) a z (RepOs.laid _ _ _ k1 a), fun _ => rfl⟩
  · have y := h3 a
    have w := k3 a
    by_cases ea : a = p
    · subst ea
      dsimp only
      rw [if_pos rfl]
      exact ⟨by omega, fun _ => ⟨r.s0 hp, .inl q1⟩⟩
    · dsimp only
      rw [if_neg ea]
      exact ⟨by omega, fun z => y.2 (by omega)⟩
/-- a new shared object -/
theorem R.share {p : Addr} {u : HO} (r : R c S H ts vs e σ) (hp : H p = none) : R c (upd S p u) (upd H p u) ts vs e σ ∧ Same S (upd S p u) := by
  obtain ⟨f1, f2, h1, h2, h3⟩ := r.rep
  have q1 := r.h0 hp
  have hs := r.s0 hp
  have sS : Same S (upd S p u) := Same.new hs
  have sH : Same H (upd H p u) := Same.new hp
  refine ⟨⟨⟨f1, f2, RepOs.mono sS _ _ _ h1 fun a z => upd_ne fun e => RepOs.laid _ _ _ h1 a z (by rw [e]; exact hp), RepE.mono sS _ _ _ h2 fun a z => upd_ne fun e => RepE.laid _ _ _ h2 a z (by rw [e]; exact hp), fun a => ⟨(h3 a).1, fun z => ?_⟩⟩, fun a w ha => ?_, r.ext.trans sS, fun q hq => ?_, fun a w ha hb => sH a w (r.fr a w ha hb), dom_upd r.dom, r.fix⟩, sS⟩
  · have ne : a ≠ p := fun e => by
      by_cases z1 : f1 a = 0
      · exact RepE.laid _ _ _ h2 a (by omega) (by rw [e]; exact hp)
      · exact RepOs.laid _ _ _ h1 a z1 (by rw [e]; exact hp)
    rw [upd_ne ne]
    exact (h3 a).2 z
  · by_cases ea : a = p
    · subst ea
      rw [upd_same] at ha
      rw [upd_same]
      exact ha
    · rw [upd_ne ea] at ha
      rw [upd_ne ea]
      exact r.sub a w ha
  · by_cases ea : q = p
    · subst ea
      exact .inr (.inl q1)
    · rw [upd_ne ea] at hq
      exact r.new q hq
theorem R.sh_all {ds : List D} {us : List V} (r : R c S H (ds.map O.sh ++ ts) (us ++ vs) e σ) (l : us.length = ds.length) : Reps c.K S ds us := by
  obtain ⟨f1, f2, h1, h2, h3⟩ := r.rep
  obtain ⟨g1, g2, k1, k2, k3⟩ := h1.split (by rw [l, List.length_map])
  have := RepOs.frz (Same.refl S) _ _ _ (nobxs_map ds) k1 (fun a z => by
    have : ∀ (ds : List D) (us : List V) (g : Fp), RepOs c.K c.bx S H (ds.map O.sh) us g → ∀ a, g a = 0 := by
      intro ds
      induction ds with
      | nil => intro us g h a; simp only [List.map_nil, RepOs] at h; exact h.2 a
      | cons d ds ih =>
        intro us g h a
        simp only [List.map_cons, RepOs, RepO] at h
        obtain ⟨_, _, p1, p2, _, l1, l2, l3⟩ := h
        rw [l3, l1.2, ih _ _ l2]
    exact absurd (this _ _ _ k1 a) z)
  rw [toDs_map] at this
  exact this
theorem R.pops : ∀ {os : List O} {us : List V} {ts : List O} {vs : List V}, R c S H (os ++ ts) (us ++ vs) e σ → us.length = os.length → R c S H ts vs e σ
  | [], us, ts, vs, r, l => by
    have e : us = [] := List.length_eq_zero_iff.mp l
    subst e
    exact r
  | o :: os, [], ts, vs, r, l => by simp at l
  | o :: os, u :: us, ts, vs, r, l => R.pops (os := os) (us := us) r.pop (by simpa using l)
/-- a new tuple of the shared values on top -/
theorem R.tuple {ds : List D} {us : List V} {p : Addr} {o : Obj} (r : R c S H (ds.map O.sh ++ ts) (us ++ vs) e σ) (l : us.length = ds.length) (hp : H p = none) (ho : o.dict = none) :
    ∃ S', R c S' (upd H p (.frz o (.tup us))) (.sh (.tup ds) :: ts) (.ref p :: vs) e σ := by
  have a := r.sh_all l
  obtain ⟨r2, sm⟩ := (r.pops (by rw [l, List.length_map])).share (u := .frz o (.tup us)) hp
  refine ⟨_, r2.push ?_⟩
  simp only [Rep]
  exact ⟨p, us, o, rfl, upd_same, ho, Reps.mono sm _ _ a⟩
theorem tupQ {K : PySem.W.Frag} {S H : Hp} {p : Addr} {vs : List V} {o : Obj} (s : Same S H) (h : S p = some (.frz o (.tup vs))) : SqT K H p vs := .inl (.inr ⟨o, s _ _ h⟩)
/-- the values on top, frozen -/
theorem R.freezes : ∀ {os : List O} {us : List V} {ts : List O} {vs : List V} {S : Hp}, R c S H (os ++ ts) (us ++ vs) e σ → us.length = os.length → nobxs os = true → ∃ S', Same S S' ∧ R c S' H ((toDs os).map O.sh ++ ts) (us ++ vs) e σ
  | [], us, ts, vs, S, r, l, n => ⟨S, Same.refl S, by
    have e : us = [] := List.length_eq_zero_iff.mp l
    subst e
    exact r⟩
  | o :: os, [], ts, vs, S, r, l, n => by simp at l
  | o :: os, u :: us, ts, vs, S, r, l, n => by
    simp only [nobxs, Bool.and_eq_true] at n
    obtain ⟨S1, s1, r1⟩ := R.freeze r n.1
    have t := r1.top
    obtain ⟨S2, s2, r2⟩ := R.freezes (os := os) (us := us) (ts := ts) (vs := vs) r1.pop (by simpa using l) n.2
    refine ⟨S2, s1.trans s2, ?_⟩
    simp only [toDs, List.map_cons, List.cons_append]
    exact r2.push (Rep.mono s2 _ _ t)
end
end TX
end

section
namespace TX
open PySem L2

theorem set_self {α : Type} : ∀ {l : List α} {i : Nat} {x : α}, l[i]? = some x → l.set i x = l
  | [], i, x, h => by simp at h
  | a :: l, 0, x, h => by
    have e : a = x := by simpa using h
    rw [e]
    rfl
  | a :: l, i + 1, x, h => by
    rw [List.set_cons_succ, set_self (l := l) (i := i) (by simpa using h)]
/-! ### what changes in a list that is held alone -/
section
variable {c : Ct} {S H : Hp} {ts : List O} {vs : List V} {e : Env} {σ : St} {o : O} {v : V}
theorem R.openTop {os : List O} (r : R c S H (.lst os :: ts) (v :: vs) e σ) : ∃ p xs g ft fe, v = .ref p ∧ H p = some (.lst xs) ∧ RepOs c.K c.bx S H os xs g ∧ RepOs c.K c.bx S H ts vs ft ∧ RepE c.K c.bx S H e.sl σ fe ∧
    ∀ a, (if a = p then 1 else 0) + g a + ft a + fe a ≤ 1 ∧ ((if a = p then 1 else 0) + g a + ft a + fe a = 1 → S a = none ∧ (c.H_0 a = none ∨ c.bx a)) := by
  obtain ⟨f1, f2, h1, h2, h3⟩ := r.rep
  simp only [RepOs, RepO] at h1
  obtain ⟨v', r', g1, g2, e1, ⟨p, xs, g, k1, k2, k3, k4⟩, k5, k6⟩ := h1
  obtain ⟨rfl, rfl⟩ := List.cons.inj e1
  refine ⟨p, xs, g, g2, f2, k1, k2, k3, k5, h2, fun a => ?_⟩
  have := h3 a
  rw [k6, k4] at this
  exact this
theorem R.closeTop {os : List O} {p : Addr} {xs ys : List V} {g ft fe : Fp} {e' : Env} {ts' : List O} {vs' : List V} (r : R c S H ts vs e σ) (hp : H p = some (.lst xs)) (hg : e'.g = e.g) (k3 : RepOs c.K c.bx S H os ys g) (k5 : RepOs c.K c.bx S H ts' vs' ft) (h2 : RepE c.K c.bx S H e'.sl σ fe)
    (h3 : ∀ a, (if a = p then 1 else 0) + g a + ft a + fe a ≤ 1 ∧ ((if a = p then 1 else 0) + g a + ft a + fe a = 1 → S a = none ∧ (c.H_0 a = none ∨ c.bx a))) :
    R c S (upd H p (.lst ys)) (.lst os :: ts') (.ref p :: vs') e' σ := by
  have h3p := (h3 p)
  rw [if_pos rfl] at h3p
  obtain ⟨q1, q2⟩ := h3p.2 (by omega)
  have un : ∀ a, a ≠ p → (upd H p (.lst ys)) a = H a := fun a z => upd_ne z
  refine ⟨⟨fun a => ((if a = p then 1 else 0) + g a) + ft a, fe, ?_, RepE.mono (Same.refl S) _ _ _ h2 fun a z => un a fun w => ?_, fun a => ?_⟩, fun a u ha => ?_, r.ext, r.new, fun a u ha hb => ?_, dom_upd r.dom, r.fix⟩
  · simp only [RepOs, RepO]
    refine ⟨_, _, fun a => ((if a = p then 1 else 0) + g a), ft, rfl, ⟨p, ys, g, rfl, upd_same, RepOs.mono (Same.refl S) _ _ _ k3 fun a z => un a fun w => ?_, fun _ => rfl⟩, RepOs.mono (Same.refl S) _ _ _ k5 fun a z => un a fun w => ?_, fun _ => rfl⟩
    · subst w
      omega
    · subst w
      omega
  · subst w
    omega
  · exact h3 a
  · rw [un a (ne_of_none ha q1)]
    exact r.sub a u ha
  · have ne : a ≠ p := fun w => by
      subst w
      rcases q2 with q2 | q2
      · rw [q2] at ha
        cases ha
      · exact hb q2
    rw [un a ne]
    exact r.fr a u ha hb
theorem R.ref_top {os : List O} (r : R c S H (.lst os :: ts) (v :: vs) e σ) : ∃ p xs, v = .ref p ∧ H p = some (.lst xs) ∧ xs.length = os.length := by
  obtain ⟨p, xs, g, ft, fe, h1, h2, h3, _⟩ := r.openTop
  exact ⟨p, xs, h1, h2, h3.len⟩
theorem R.app {os : List O} {p : Addr} {xs : List V} {y : V} (r : R c S H (.lst os :: o :: ts) (.ref p :: y :: vs) e σ) (hp : H p = some (.lst xs)) : R c S (upd H p (.lst (xs ++ [y]))) (.lst (os ++ [o]) :: ts) (.ref p :: vs) e σ := by
  obtain ⟨p', xs', g, ft, fe, h1, h2, h3, h4, h5, h6⟩ := r.openTop
  obtain rfl : p = p' := V.ref.inj h1
  rw [hp] at h2
  obtain rfl : xs = xs' := HO.lst.inj (Option.some.inj h2)
  simp only [RepOs] at h4
  obtain ⟨w, r', q1, q2, e1, l1, l2, l3⟩ := h4
  obtain ⟨rfl, rfl⟩ := List.cons.inj e1
  refine R.closeTop r hp rfl (RepOs.app h3 (vs := [y]) (ps := [o]) (g := q1) ?_) l2 h5 fun a => ?_
  · simp only [RepOs]
    exact ⟨y, [], q1, fun _ => 0, rfl, l1, ⟨rfl, fun _ => rfl⟩, fun a => rfl⟩
  · have := h6 a
    rw [l3] at this
    (try dsimp only)
    exact ⟨by omega, fun z => this.2 (by omega)⟩
theorem RepOs.erase {K : PySem.W.Frag} {b : Addr → Prop} : ∀ {os : List O} {xs : List V} {g : Fp} {k : Nat} {o : O}, RepOs K b S H os xs g → os[k]? = some o →
    ∃ y g1 g2, xs[k]? = some y ∧ RepO K b S H o y g1 ∧ RepOs K b S H (os.eraseIdx k) (xs.eraseIdx k) g2 ∧ ∀ a, g a = g1 a + g2 a
  | [], xs, g, k, o, h, z => by simp at z
  | o' :: os, xs, g, 0, o, h, z => by
    simp only [RepOs] at h
    obtain ⟨w, r', q1, q2, rfl, l1, l2, l3⟩ := h
    have e : o' = o := by simpa using z
    subst e
    exact ⟨w, q1, q2, rfl, l1, l2, l3⟩
  | o' :: os, xs, g, k + 1, o, h, z => by
    simp only [RepOs] at h
    obtain ⟨w, r', q1, q2, rfl, l1, l2, l3⟩ := h
    obtain ⟨y, g1, g2, k1, k2, k3, k4⟩ := RepOs.erase (k := k) l2 (by simpa using z)
    refine ⟨y, g1, fun a => q1 a + g2 a, by simpa using k1, k2, ?_, fun a => by rw [l3, k4]; (try dsimp only); omega⟩
    simp only [List.eraseIdx_cons_succ, RepOs]
    exact ⟨w, _, q1, g2, rfl, l1, k3, fun _ => rfl⟩
theorem RepOs.put {K : PySem.W.Frag} {b : Addr → Prop} : ∀ {os : List O} {xs : List V} {g g1 : Fp} {k : Nat} {o : O} {y : V}, RepOs K b S H os xs g → RepO K b S H o y g1 →
    ∃ g2, RepOs K b S H (os.set k o) (xs.set k y) g2 ∧ ∀ a, g2 a ≤ g1 a + g a
  | [], xs, g, g1, k, o, y, h, z => by
    simp only [RepOs] at h
    rw [h.1]
    exact ⟨g, by simp only [List.set_nil, RepOs]; exact ⟨trivial, h.2⟩, fun a => by (try dsimp only); omega⟩
  | o' :: os, xs, g, g1, 0, o, y, h, z => by
    simp only [RepOs] at h
    obtain ⟨w, r', q1, q2, rfl, l1, l2, l3⟩ := h
    exact ⟨fun a => g1 a + q2 a, by simp only [List.set_cons_zero, RepOs]; exact ⟨y, _, g1, q2, rfl, z, l2, fun _ => rfl⟩, fun a => by (try dsimp only); rw [l3]; omega⟩
  | o' :: os, xs, g, g1, k + 1, o, y, h, z => by
    simp only [RepOs] at h
    obtain ⟨w, r', q1, q2, rfl, l1, l2, l3⟩ := h
    obtain ⟨g2, k1, k2⟩ := RepOs.put (k := k) l2 z
    exact ⟨fun a => q1 a + g2 a, by simp only [List.set_cons_succ, RepOs]; exact ⟨w, _, q1, g2, rfl, l1, k1, fun _ => rfl⟩, fun a => by (try dsimp only); have := k2 a; rw [l3]; omega⟩
theorem R.popAt {os : List O} {p : Addr} {xs : List V} {k : Nat} (r : R c S H (.lst os :: ts) (.ref p :: vs) e σ) (hp : H p = some (.lst xs)) (hk : os[k]? = some o) :
    ∃ y, xs[k]? = some y ∧ R c S (upd H p (.lst (xs.eraseIdx k))) (.lst (os.eraseIdx k) :: o :: ts) (.ref p :: y :: vs) e σ := by
  obtain ⟨p', xs', g, ft, fe, h1, h2, h3, h4, h5, h6⟩ := r.openTop
  obtain rfl : p = p' := V.ref.inj h1
  rw [hp] at h2
  obtain rfl : xs = xs' := HO.lst.inj (Option.some.inj h2)
  obtain ⟨y, g1, g2, k1, k2, k3, k4⟩ := h3.erase hk
  refine ⟨y, k1, R.closeTop r hp rfl k3 (ts' := o :: ts) (vs' := y :: vs) (ft := fun a => g1 a + ft a) ?_ h5 fun a => ?_⟩
  · simp only [RepOs]
    exact ⟨y, vs, g1, ft, rfl, k2, h4, fun _ => rfl⟩
  · have := h6 a
    rw [k4] at this
    (try dsimp only)
    exact ⟨by omega, fun z => this.2 (by omega)⟩
theorem R.setAt {os : List O} {p : Addr} {xs : List V} {k : Nat} {y : V} (r : R c S H (.lst os :: o :: ts) (.ref p :: y :: vs) e σ) (hp : H p = some (.lst xs)) :
    R c S (upd H p (.lst (xs.set k y))) (.lst (os.set k o) :: ts) (.ref p :: vs) e σ := by
  obtain ⟨p', xs', g, ft, fe, h1, h2, h3, h4, h5, h6⟩ := r.openTop
  obtain rfl : p = p' := V.ref.inj h1
  rw [hp] at h2
  obtain rfl : xs = xs' := HO.lst.inj (Option.some.inj h2)
  simp only [RepOs] at h4
  obtain ⟨w, r', q1, q2, e1, l1, l2, l3⟩ := h4
  obtain ⟨rfl, rfl⟩ := List.cons.inj e1
  obtain ⟨g2, k1, k2⟩ := RepOs.put (k := k) h3 l1
  refine R.closeTop r hp rfl k1 l2 h5 fun a => ?_
  have := h6 a
  have w := k2 a
  rw [l3] at this
  exact ⟨by omega, fun z => this.2 (by omega)⟩
/-- a slot's value comes onto the stack, and back -/
theorem R.out {i : Nat} (r : R c S H ts vs e σ) (h : e.sl[i]? = some (some o)) : ∃ v, σ[i]? = some (some v) ∧ R c S H (o :: ts) (v :: vs) ⟨e.sl.set i none, e.g⟩ σ := by
  obtain ⟨f1, f2, h1, h2, h3⟩ := r.rep
  obtain ⟨v, g1, g2, k1, k2, k3, k4⟩ := h2.take h
  refine ⟨v, k1, ⟨fun a => g1 a + f1 a, g2, ?_, k3, fun a => ?_⟩, r.sub, r.ext, r.new, r.fr, r.dom, r.fix⟩
  · simp only [RepOs]
    exact ⟨v, vs, g1, f1, rfl, k2, h1, fun _ => rfl⟩
  · have := h3 a
    rw [k4] at this
    (try dsimp only)
    exact ⟨by omega, fun z => this.2 (by omega)⟩
theorem fix_set {g : List Nat} {ar σ : St} {i : Nat} {x : Option V} (h : ∀ j ∈ g, σ[j]? = ar[j]?) (hi : i ∉ g) : ∀ j ∈ g, (σ.set i x)[j]? = ar[j]? := fun j hj => by
  rw [List.getElem?_set_ne (fun e => hi (by rw [e]; exact hj))]
  exact h j hj
theorem R.put {i : Nat} (r : R c S H (o :: ts) (v :: vs) e σ) (hi : i ∉ c.fx) : R c S H ts vs ⟨e.sl.set i (some o), e.g⟩ (σ.set i (some v)) := by
  obtain ⟨f1, f2, h1, h2, h3⟩ := r.rep
  simp only [RepOs] at h1
  obtain ⟨w, r', q1, q2, e1, l1, l2, l3⟩ := h1
  obtain ⟨rfl, rfl⟩ := List.cons.inj e1
  obtain ⟨g2, k1, k2⟩ := RepE.put (i := i) h2 l1
  refine ⟨⟨q2, g2, l2, k1, fun a => ?_⟩, r.sub, r.ext, r.new, r.fr, r.dom, fix_set r.fix hi⟩
  have := h3 a
  have w := k2 a
  rw [l3] at this
  exact ⟨by omega, fun z => this.2 (by omega)⟩
theorem R.inn {i : Nat} (r : R c S H (o :: ts) (v :: vs) e σ) (h : σ[i]? = some (some v)) : R c S H ts vs ⟨e.sl.set i (some o), e.g⟩ σ := by
  obtain ⟨f1, f2, h1, h2, h3⟩ := r.rep
  simp only [RepOs] at h1
  obtain ⟨w, r', q1, q2, e1, l1, l2, l3⟩ := h1
  obtain ⟨rfl, rfl⟩ := List.cons.inj e1
  obtain ⟨g2, k1, k2⟩ := RepE.put (i := i) h2 l1
  rw [set_self h] at k1
  refine ⟨⟨q2, g2, l2, k1, fun a => ?_⟩, r.sub, r.ext, r.new, r.fr, r.dom, r.fix⟩
  have := h3 a
  have w := k2 a
  rw [l3] at this
  exact ⟨by omega, fun z => this.2 (by omega)⟩
theorem R.forget {i : Nat} {x : Option V} (r : R c S H ts vs e σ) (hi : i ∉ c.fx) : R c S H ts vs ⟨e.sl.set i none, e.g⟩ (σ.set i x) := by
  obtain ⟨f1, f2, h1, h2, h3⟩ := r.rep
  obtain ⟨g2, k1, k2⟩ := RepE.drop1 (i := i) (x := x) h2
  refine ⟨⟨f1, g2, h1, k1, fun a => ?_⟩, r.sub, r.ext, r.new, r.fr, r.dom, fix_set r.fix hi⟩
  have := h3 a
  have w := k2 a
  exact ⟨by omega, fun z => this.2 (by omega)⟩
/-- a slot is not asked for any more -/
theorem R.forg {i : Nat} (r : R c S H ts vs e σ) : R c S H ts vs ⟨e.sl.set i none, e.g⟩ σ := by
  obtain ⟨f1, f2, h1, h2, h3⟩ := r.rep
  obtain ⟨g2, k1, k2⟩ := RepE.drop1 (i := i) (x := (σ[i]?).join) h2
  have e1 : σ.set i (σ[i]?).join = σ := by
    cases h : σ[i]? with
    | none => exact List.set_eq_of_length_le (List.getElem?_eq_none_iff.mp h)
    | some x => exact set_self h
  rw [e1] at k1
  refine ⟨⟨f1, g2, h1, k1, fun a => ?_⟩, r.sub, r.ext, r.new, r.fr, r.dom, r.fix⟩
  have := h3 a
  have w := k2 a
  exact ⟨by omega, fun z => this.2 (by omega)⟩
theorem R.env {e' : Env} (r : R c S H ts vs e σ) (h : e = e') : R c S H ts vs e' σ := h ▸ r
theorem R.get {i : Nat} {d : D} (r : R c S H ts vs e σ) (h : e.sl[i]? = some (some (.sh d))) : ∃ v, σ[i]? = some (some v) ∧ Rep c.K S d v := by
  obtain ⟨f1, f2, h1, h2, h3⟩ := r.rep
  exact h2.get h
theorem R.len (r : R c S H ts vs e σ) : σ.length = e.sl.length := by
  obtain ⟨f1, f2, h1, h2, h3⟩ := r.rep
  exact h2.len
end

/-! ### what a reading does -/
section
variable (c : Ct)
def WE (te : TE) (e : Env) (Q : O → Env → Prop) : Prop := ∀ S H ts vs σ, R c S H ts vs e σ → ∀ Q' : VK, (∀ o v e' S' H', R c S' H' (o :: ts) (v :: vs) e' σ → Q o e' → Q' v H') → te σ H Q'
def WT (tt : TT) (e : Env) (Q : Bool → Env → Prop) : Prop := ∀ S H ts vs σ, R c S H ts vs e σ → ∀ Q' : Bool → Hp → Prop, (∀ b e' S' H', R c S' H' ts vs e' σ → Q b e' → Q' b H') → tt σ H Q'
def WA (ta : TA) (e : Env) (Q : List O → Env → Prop) : Prop := ∀ S H ts vs σ, R c S H ts vs e σ → ∀ Q' : List V → Hp → Prop, (∀ os us e' S' H', R c S' H' (os ++ ts) (us ++ vs) e' σ → us.length = os.length → Q os e' → Q' us H') → ta σ H Q'
def WO (to : TO) (e : Env) (Q : Option Int → Env → Prop) : Prop := ∀ S H ts vs σ, R c S H ts vs e σ → ∀ Q' : Option Int → Hp → Prop, (∀ i e' S' H', R c S' H' ts vs e' σ → Q i e' → Q' i H') → to σ H Q'
/-- by values: two operands, a call's list -/
def WR (r : R2) (o1 o2 : O) (e : Env) (Q : O → Env → Prop) : Prop := ∀ S H ts vs x y σ, R c S H (o2 :: o1 :: ts) (y :: x :: vs) e σ → ∀ Q' : VK, (∀ o v e' S' H', R c S' H' (o :: ts) (v :: vs) e' σ → Q o e' → Q' v H') → r x y H Q'
def WU (r : V → Hp → VK → Prop) (o1 : O) (e : Env) (Q : O → Env → Prop) : Prop := ∀ S H ts vs x σ, R c S H (o1 :: ts) (x :: vs) e σ → ∀ Q' : VK, (∀ o v e' S' H', R c S' H' (o :: ts) (v :: vs) e' σ → Q o e' → Q' v H') → r x H Q'
def WC (r : List V → Hp → VK → Prop) (os : List O) (e : Env) (Q : O → Env → Prop) : Prop := ∀ S H ts vs us σ, R c S H (os ++ ts) (us ++ vs) e σ → us.length = os.length → ∀ Q' : VK, (∀ o v e' S' H', R c S' H' (o :: ts) (v :: vs) e' σ → Q o e' → Q' v H') → r us H Q'
structure Post where
  nx : Env → Prop
  rt : O → Env → Prop
  bk : Env → Prop
  ct : Env → Prop
def WS (t : TS) (e : Env) (P : Post) : Prop := ∀ S H ts vs σ, R c S H ts vs e σ → ∀ D : Ends, (∀ e' S' H' σ', R c S' H' ts vs e' σ' → P.nx e' → D.nx σ' H') → (∀ o v e' S' H' σ', R c S' H' (o :: ts) (v :: vs) e' σ' → P.rt o e' → D.rt v H') →
  (∀ e' S' H' σ', R c S' H' ts vs e' σ' → P.bk e' → D.bk σ' H') → (∀ e' S' H' σ', R c S' H' ts vs e' σ' → P.ct e' → D.ct σ' H') → t D σ H
/-- a target takes a value -/
def WG (g : TG) (o : O) (e : Env) (Q : Env → Prop) : Prop := ∀ S H ts vs v σ, R c S H (o :: ts) (v :: vs) e σ → ∀ Q' : St → Hp → Prop, (∀ e' S' H' σ', R c S' H' ts vs e' σ' → Q e' → Q' σ' H') → g v σ H Q'
end

section
variable {c : Ct} {e : Env} {Q : O → Env → Prop}
theorem WE.mono {te : TE} {Q2 : O → Env → Prop} (h : WE c te e Q) (k : ∀ o e', Q o e' → Q2 o e') : WE c te e Q2 := fun S H ts vs σ r Q' q => h S H ts vs σ r Q' fun o v e' S' H' r' z => q o v e' S' H' r' (k o e' z)
theorem WT.mono {tt : TT} {Q1 Q2 : Bool → Env → Prop} (h : WT c tt e Q1) (k : ∀ o e', Q1 o e' → Q2 o e') : WT c tt e Q2 := fun S H ts vs σ r Q' q => h S H ts vs σ r Q' fun o e' S' H' r' z => q o e' S' H' r' (k o e' z)
theorem WS.mono {t : TS} {P P2 : Post} (h : WS c t e P) (k1 : ∀ e', P.nx e' → P2.nx e') (k2 : ∀ o e', P.rt o e' → P2.rt o e') (k3 : ∀ e', P.bk e' → P2.bk e') (k4 : ∀ e', P.ct e' → P2.ct e') : WS c t e P2 := fun S H ts vs σ r D d1 d2 d3 d4 =>
  h S H ts vs σ r D (fun e' S' H' σ' r' z => d1 e' S' H' σ' r' (k1 e' z)) (fun o v e' S' H' σ' r' z => d2 o v e' S' H' σ' r' (k2 o e' z)) (fun e' S' H' σ' r' z => d3 e' S' H' σ' r' (k3 e' z)) (fun e' S' H' σ' r' z => d4 e' S' H' σ' r' (k4 e' z))
theorem we_forget {te : TE} (i : Nat) (k : WE c te ⟨e.sl.set i none, e.g⟩ Q) : WE c te e Q := fun S H ts vs σ r Q' q => k S H ts vs σ r.forg Q' q
theorem ws_forget {t : TS} {P : Post} (i : Nat) (k : WS c t ⟨e.sl.set i none, e.g⟩ P) : WS c t e P := fun S H ts vs σ r D d1 d2 d3 d4 => k S H ts vs σ r.forg D d1 d2 d3 d4

/-! ### names, constants -/
theorem we_var {i : Nat} {d : D} (h : e.sl[i]? = some (some (.sh d))) (q : Q (.sh d) e) : WE c (tVar i) e Q := fun S H ts vs σ r Q' k => by
  obtain ⟨v, h1, h2⟩ := r.get h
  exact ⟨v, h1, k _ _ _ _ _ (r.push h2) q⟩
/-- a list that a name holds alone, read for good: it doesn't change any more -/
theorem we_fz {i : Nat} {o : O} (h : e.sl[i]? = some (some o)) (q : Q (.sh (toD o)) ⟨e.sl.set i (some (.sh (toD o))), e.g⟩) : WE c (tVar i) e Q := fun S H ts vs σ r Q' k => by
  obtain ⟨v, h1, r1⟩ := r.out h
  obtain ⟨S', s1, r2⟩ := r1.freeze (nobx_all _)
  have t := r2.top
  have r3 := (r2.inn h1)
  simp only [List.set_set] at r3
  exact ⟨v, h1, k _ _ _ _ _ (r3.push t) q⟩
/-- .. handed on: the name holds it no longer -/
theorem we_mv {i : Nat} {o : O} (h : e.sl[i]? = some (some o)) (q : Q o ⟨e.sl.set i none, e.g⟩) : WE c (tVar i) e Q := fun S H ts vs σ r Q' k => by
  obtain ⟨v, h1, r1⟩ := r.out h
  exact ⟨v, h1, k _ _ _ _ _ r1 q⟩
def ofV : V → D
  | .non => .non
  | .bl b => .bl b
  | .int i => .int i
  | .str s => .str s
  | _ => .non
def plainV : V → Bool
  | .non => true
  | .bl _ => true
  | .int _ => true
  | .str _ => true
  | _ => false
theorem rep_ofV {K : PySem.W.Frag} {S : Hp} : ∀ {v : V}, plainV v = true → Rep K S (ofV v) v
  | .non, _ => rfl
  | .bl _, _ => rfl
  | .int _, _ => rfl
  | .str _, _ => rfl
  | .byt _, h => nomatch h
  | .flt _, h => nomatch h
  | .ref _, h => nomatch h
  | .ty _, h => nomatch h
theorem we_c {v : V} (q : Q (.sh (ofV v)) e) (h : plainV v = true) : WE c (tC v) e Q := fun S H ts vs σ r Q' k => k _ _ _ _ _ (r.push (rep_ofV h)) q
theorem we_op {r : R2} {ta tb : TE} (h : WE c ta e fun o1 e1 => WE c tb e1 fun o2 e2 => WR c r o1 o2 e2 Q) : WE c (tOp r ta tb) e Q := fun S H ts vs σ rr Q' k =>
  h S H ts vs σ rr _ fun o1 v1 e1 S1 H1 r1 h1 => h1 S1 H1 _ _ σ r1 _ fun o2 v2 e2 S2 H2 r2 h2 => h2 S2 H2 ts vs v1 v2 σ r2 Q' k
theorem we_un {r : V → Hp → VK → Prop} {ta : TE} (h : WE c ta e fun o1 e1 => WU c r o1 e1 Q) : WE c (tUn r ta) e Q := fun S H ts vs σ rr Q' k =>
  h S H ts vs σ rr _ fun o1 v1 e1 S1 H1 r1 h1 => h1 S1 H1 ts vs v1 σ r1 Q' k
theorem wr_I {C : Int → Int → Prop} {g : Int → Int → V} {i j : Int} (hc : C i j) (q : Q (.sh (ofV (g i j))) e) (hp : plainV (g i j) = true) : WR c (rI C g) (.sh (.int i)) (.sh (.int j)) e Q := fun S H ts vs x y σ r Q' k =>
  ⟨i, j, r.top2, r.top, hc, k _ _ _ _ _ (r.pop.pop.push (rep_ofV hp)) q⟩
theorem wr_I0 {g : Int → Int → V} {i j : Int} (q : Q (.sh (ofV (g i j))) e) (hp : plainV (g i j) = true) : WR c (rI0 g) (.sh (.int i)) (.sh (.int j)) e Q := fun S H ts vs x y σ r Q' k =>
  ⟨i, j, r.top2, r.top, k _ _ _ _ _ (r.pop.pop.push (rep_ofV hp)) q⟩
theorem wu_I {g : Int → V} {i : Int} (q : Q (.sh (ofV (g i))) e) (hp : plainV (g i) = true) : WU c (rU g) (.sh (.int i)) e Q := fun S H ts vs x σ r Q' k =>
  ⟨i, r.top, k _ _ _ _ _ (r.pop.push (rep_ofV hp)) q⟩
theorem we_not {ta : TE} (h : WE c ta e fun o1 e1 => ∃ b, o1 = .sh (.bl b) ∧ Q (.sh (.bl (!b))) e1) : WE c (tNotV ta) e Q := fun S H ts vs σ rr Q' k =>
  h S H ts vs σ rr _ fun o1 v1 e1 S1 H1 r1 ⟨b, e2, q⟩ => by
    subst e2
    exact ⟨b, r1.top, k _ _ _ _ _ (r1.pop.push (d := .bl (!b)) rfl) q⟩
theorem we_andV {ta tb : TE} (h : WE c ta e fun o1 e1 => ∃ b, o1 = .sh (.bl b) ∧ if b = true then WE c tb e1 Q else Q (.sh (.bl false)) e1) : WE c (tAndV ta tb) e Q := fun S H ts vs σ rr Q' k =>
  h S H ts vs σ rr _ fun o1 v1 e1 S1 H1 r1 ⟨b, e2, q⟩ => by
    subst e2
    refine ⟨b, r1.top, ?_⟩
    cases b with
    | true =>
      rw [if_pos rfl] at q
      rw [if_pos rfl]
      exact q S1 H1 ts vs σ r1.pop Q' k
    | false =>
      rw [if_neg Bool.false_ne_true] at q
      rw [if_neg Bool.false_ne_true]
      exact k _ _ _ _ _ (r1.pop.push (d := .bl false) rfl) q
theorem we_orV {ta tb : TE} (h : WE c ta e fun o1 e1 => ∃ b, o1 = .sh (.bl b) ∧ if b = true then Q (.sh (.bl true)) e1 else WE c tb e1 Q) : WE c (tOrV ta tb) e Q := fun S H ts vs σ rr Q' k =>
  h S H ts vs σ rr _ fun o1 v1 e1 S1 H1 r1 ⟨b, e2, q⟩ => by
    subst e2
    refine ⟨b, r1.top, ?_⟩
    cases b with
    | false =>
      rw [if_neg Bool.false_ne_true] at q
      rw [if_neg Bool.false_ne_true]
      exact q S1 H1 ts vs σ r1.pop Q' k
    | true =>
      rw [if_pos rfl] at q
      rw [if_pos rfl]
      exact k _ _ _ _ _ (r1.pop.push (d := .bl true) rfl) q
theorem we_if {t : TT} {ta tb : TE} (h : WT c t e fun b e1 => if b = true then WE c ta e1 Q else WE c tb e1 Q) : WE c (tIf t ta tb) e Q := fun S H ts vs σ rr Q' k =>
  h S H ts vs σ rr _ fun b e1 S1 H1 r1 q => by
    cases b with
    | true =>
      rw [if_pos rfl] at q
      show (if true = true then _ else _)
      rw [if_pos rfl]
      exact q S1 H1 ts vs σ r1 Q' k
    | false =>
      rw [if_neg Bool.false_ne_true] at q
      show (if false = true then _ else _)
      rw [if_neg Bool.false_ne_true]
      exact q S1 H1 ts vs σ r1 Q' k
/-! ### tests -/
variable {B : Bool → Env → Prop}
theorem wt_test {te : TE} (h : WE c te e fun o e1 => ∃ b, o = .sh (.bl b) ∧ B b e1) : WT c (tTest te) e B := fun S H ts vs σ rr Q' k =>
  h S H ts vs σ rr _ fun o1 v1 e1 S1 H1 r1 ⟨b, e2, q⟩ => by
    subst e2
    exact ⟨b, r1.top, k _ _ _ _ r1.pop q⟩
theorem wt_B {te : TE} (h : WE c te e fun o e1 => ∃ b, o = .sh (.bl b) ∧ B b e1) : WT c (tB te) e B := fun S H ts vs σ rr Q' k =>
  h S H ts vs σ rr _ fun o1 v1 e1 S1 H1 r1 ⟨b, e2, q⟩ => by
    subst e2
    exact ⟨b, r1.top, k _ _ _ _ r1.pop q⟩
theorem wt_not {t : TT} (h : WT c t e fun b e1 => B (!b) e1) : WT c (tNot t) e B := fun S H ts vs σ rr Q' k => h S H ts vs σ rr _ fun b e1 S1 H1 r1 q => k _ _ _ _ r1 q
theorem wt_and {t u : TT} (h : WT c t e fun b e1 => if b = true then WT c u e1 B else B false e1) : WT c (tAnd t u) e B := fun S H ts vs σ rr Q' k => h S H ts vs σ rr _ fun b e1 S1 H1 r1 q => by
  cases b with
  | true =>
    rw [if_pos rfl] at q
    rw [if_pos rfl]
    exact q S1 H1 ts vs σ r1 Q' k
  | false =>
    rw [if_neg Bool.false_ne_true] at q
    rw [if_neg Bool.false_ne_true]
    exact k _ _ _ _ r1 q
theorem wt_or {t u : TT} (h : WT c t e fun b e1 => if b = true then B true e1 else WT c u e1 B) : WT c (tOr t u) e B := fun S H ts vs σ rr Q' k => h S H ts vs σ rr _ fun b e1 S1 H1 r1 q => by
  cases b with
  | false =>
    rw [if_neg Bool.false_ne_true] at q
    rw [if_neg Bool.false_ne_true]
    exact q S1 H1 ts vs σ r1 Q' k
  | true =>
    rw [if_pos rfl] at q
    rw [if_pos rfl]
    exact k _ _ _ _ r1 q
theorem wt_yes (h : B true e) : WT c tYes e B := fun S H ts vs σ rr Q' k => k _ _ _ _ rr h
/-! ### arguments, displays -/
variable {A : List O → Env → Prop}
theorem wa_nil (h : A [] e) : WA c tNil e A := fun S H ts vs σ rr Q' k => k [] [] _ _ _ rr rfl h
theorem wa_cons {te : TE} {ta : TA} (h : WE c te e fun o e1 => WA c ta e1 fun os e2 => A (o :: os) e2) : WA c (tCons te ta) e A := fun S H ts vs σ rr Q' k =>
  h S H ts vs σ rr _ fun o1 v1 e1 S1 H1 r1 q => q S1 H1 _ _ σ r1 _ fun os us e2 S2 H2 r2 l q2 => k (o1 :: os) (v1 :: us) _ _ _ (r2.rot l) (by simpa using l) q2
theorem sz {n : Nat} (h : n ≤ 100000) : n ≤ sizeLine := Nat.le_trans h (by decide)
theorem szl {n : Nat} (h : n < 100000) : n < sizeLine := Nat.lt_of_lt_of_le h (by decide)
theorem we_lst {ta : TA} (h : WA c ta e fun os e1 => os.length ≤ 100000 ∧ Q (.lst os) e1) : WE c (tLst ta) e Q := fun S H ts vs σ rr Q' k =>
  h S H ts vs σ rr _ fun os us e1 S1 H1 r1 l q => ⟨sz (by rw [l]; exact q.1), fun p hp => k _ _ _ _ _ (r1.list l hp) q.2⟩
theorem toDs_len : ∀ os : List O, (toDs os).length = os.length
  | [] => rfl
  | o :: os => by simp only [toDs, List.length_cons, toDs_len os]
/-- a written tuple, as an object without a dict of its own -/
def tTupF (t : TA) : TE := fun σ H Q => t σ H fun xs H1 => xs.length ≤ sizeLine ∧ ∀ p o, H1 p = none → o.dict = none → Q (.ref p) (upd H1 p (.frz o (.tup xs)))
theorem we_tup {ta : TA} (h : WA c ta e fun os e1 => os.length ≤ 100000 ∧ nobxs os = true ∧ Q (.sh (.tup (toDs os))) e1) : WE c (tTupF ta) e Q := fun S H ts vs σ rr Q' k =>
  h S H ts vs σ rr _ fun os us e1 S1 H1 r1 l q => ⟨sz (by rw [l]; exact q.1), fun p o hp ho => by
    obtain ⟨S2, s2, r2⟩ := r1.freezes l q.2.1
    obtain ⟨S3, r3⟩ := r2.tuple (by rw [l, toDs_len]) hp ho
    exact k _ _ _ _ _ r3 q.2.2⟩
/-! ### statements -/
variable {P : Post}
theorem ws_seq {t u : TS} (h : WS c t e { P with nx := fun e1 => WS c u e1 P }) : WS c (tSeq t u) e P := fun S H ts vs σ rr D d1 d2 d3 d4 =>
  h S H ts vs σ rr { D with nx := u D } (fun e' S' H' σ' r' z => z S' H' ts vs σ' r' D d1 d2 d3 d4) d2 d3 d4
theorem ws_next (h : P.nx e) : WS c tNext e P := fun S H ts vs σ rr D d1 d2 d3 d4 => d1 _ _ _ _ rr h
theorem ws_break (h : P.bk e) : WS c tBreak e P := fun S H ts vs σ rr D d1 d2 d3 d4 => d3 _ _ _ _ rr h
theorem ws_cont (h : P.ct e) : WS c tCont e P := fun S H ts vs σ rr D d1 d2 d3 d4 => d4 _ _ _ _ rr h
theorem ws_drop {te : TE} (h : WE c te e fun _ e1 => P.nx e1) : WS c (tDrop te) e P := fun S H ts vs σ rr D d1 d2 d3 d4 => h S H ts vs σ rr _ fun o v e' S' H' r' z => d1 _ _ _ _ r'.pop z
theorem ws_ret {te : TE} (h : WE c te e P.rt) : WS c (tRet te) e P := fun S H ts vs σ rr D d1 d2 d3 d4 => h S H ts vs σ rr _ fun o v e' S' H' r' z => d2 _ _ _ _ _ _ r' z
theorem ws_retN (h : P.rt (.sh .non) e) : WS c tRetN e P := fun S H ts vs σ rr D d1 d2 d3 d4 => d2 _ _ _ _ _ _ (rr.push (d := .non) (v := .non) rfl) h
theorem ws_if {t : TT} {a b : TS} (h : WT c t e fun k e1 => if k = true then WS c a e1 P else WS c b e1 P) : WS c (tIfS t a b) e P := fun S H ts vs σ rr D d1 d2 d3 d4 => h S H ts vs σ rr _ fun b e1 S1 H1 r1 q => by
  cases b with
  | true =>
    rw [if_pos rfl] at q
    show (if true = true then _ else _)
    rw [if_pos rfl]
    exact q S1 H1 ts vs σ r1 D d1 d2 d3 d4
  | false =>
    rw [if_neg Bool.false_ne_true] at q
    show (if false = true then _ else _)
    rw [if_neg Bool.false_ne_true]
    exact q S1 H1 ts vs σ r1 D d1 d2 d3 d4
theorem wg_name {i : Nat} {o : O} {G : Env → Prop} (hi : i ∉ c.fx) (h : G ⟨e.sl.set i (some o), e.g⟩) : WG c (gName i) o e G := fun S H ts vs v σ rr Q' k => k _ _ _ _ (rr.put hi) h
theorem ws_asg {te : TE} {g : TG} (h : WE c te e fun o e1 => WG c g o e1 P.nx) : WS c (tAsg te g) e P := fun S H ts vs σ rr D d1 d2 d3 d4 => h S H ts vs σ rr _ fun o v e' S' H' r' z => z S' H' ts vs v σ r' _ d1
end
end TX
end

section
namespace TX
open PySem L2

/-! ### results of running; contracts of defs by functions -/
/-- what is raised: the class's name, its fields -/
structure Xn where
  cls : String
  fs : List D
inductive Rs (σ α : Type) where
  | ok (a : α) (s : σ) | ex (x : Xn) (s : σ) | bad
def Rs.holds {σ α : Type} (r : Rs σ α) (Q : α → σ → Prop) : Prop := match r with
  | .ok a s => Q a s
  | _ => False
abbrev Sl := List (Option O)
abbrev Fd := List O → Rs (List O) O
structure Con where
  n : Nat
  fx : List Nat
  run : Fd
def pickA {α : Type} : List Nat → List α → Option (List α)
  | [], _ => some []
  | i :: is, xs => match xs[i]? with
    | none => none
    | some x => (pickA is xs).map (x :: ·)
def spT (K : PySem.W.Frag) (C : Con) : Sp := fun vs H Q _ => ∃ (S : Hp) (b : Addr → Prop) (os : List O) (f : Fp),
  Same S H ∧ RepOs K b S H os vs f ∧ (∀ a, f a ≤ 1 ∧ (f a = 1 → S a = none)) ∧ os.length = C.n ∧
  match C.run os with
  | .ok o ls => ∀ (v : V) (S' H' : Hp) (g : Fp) (us : List V), Same S S' → Same S' H' → (∀ q, S' q ≠ none → S q ≠ none ∨ H q = none ∨ f q = 1) → (∀ q u, H q = some u → f q = 0 → H' q = some u) → (∀ q, H q ≠ none → H' q ≠ none) →
    pickA C.fx vs = some us → RepOs K b S' H' (o :: ls) (v :: us) g → (∀ a, g a ≤ 1 ∧ (g a = 1 → S' a = none ∧ (H a = none ∨ f a = 1))) → Q v H'
  | _ => False
/-- the slots' contents, taken out one after another -/
def takeL : List Nat → Sl → Option (List O × Sl)
  | [], sl => some ([], sl)
  | i :: is, sl => match sl[i]? with
    | some (some o) => match takeL is (sl.set i none) with
      | some (ls, s2) => some (o :: ls, s2)
      | none => none
    | _ => none
/-- .. and put back -/
def putL : List Nat → List O → Sl → Sl
  | i :: is, o :: os, sl => putL is os (sl.set i (some o))
  | _, _, sl => sl
section
variable {c : Ct} {S H : Hp} {ts : List O} {vs : List V} {e : Env} {σ : St} {o : O} {v : V}
theorem R.takes : ∀ {is : List Nat} {sl s2 : Sl} {ls : List O} {ts : List O} {vs : List V} {g : Nat}, R c S H ts vs ⟨sl, g⟩ σ → takeL is sl = some (ls, s2) →
    ∃ us : List V, us.length = ls.length ∧ pickA is σ = some (us.map some) ∧ R c S H (ls ++ ts) (us ++ vs) ⟨s2, g⟩ σ
  | [], sl, s2, ls, ts, vs, g, r, h => by
    simp only [takeL, Option.some.injEq, Prod.mk.injEq] at h
    obtain ⟨rfl, rfl⟩ := h
    exact ⟨[], rfl, rfl, r⟩
  | i :: is, sl, s2, ls, ts, vs, g, r, h => by
    simp only [takeL] at h
    split at h
    · rename_i o ho
      split at h
      · rename_i ls2 s3 h2
        simp only [Option.some.injEq, Prod.mk.injEq] at h
        obtain ⟨rfl, rfl⟩ := h
        obtain ⟨u, k1, r1⟩ := R.out r ho
        obtain ⟨us, k2, k3, r2⟩ := R.takes (is := is) (ts := o :: ts) (vs := u :: vs) r1 h2
        refine ⟨u :: us, by simp [k2], ?_, R.rot r2 k2⟩
        simp only [pickA, k1, k3, Option.map_some, List.map_cons]
      · cases h
    · cases h
theorem R.puts : ∀ {is : List Nat} {ls : List O} {us : List V} {sl : Sl} {ts : List O} {vs : List V} {g : Nat}, R c S H (ls ++ ts) (us ++ vs) ⟨sl, g⟩ σ → us.length = ls.length → pickA is σ = some (us.map some) →
    R c S H ts vs ⟨putL is ls sl, g⟩ σ
  | [], ls, us, sl, ts, vs, g, r, l, h => by
    simp only [pickA, Option.some.injEq] at h
    have e : us = [] := by simpa using h.symm
    subst e
    have e : ls = [] := List.length_eq_zero_iff.mp l.symm
    subst e
    exact r
  | i :: is, [], us, sl, ts, vs, g, r, l, h => by
    have e : us = [] := List.length_eq_zero_iff.mp l
    subst e
    simp only [pickA] at h
    split at h
    · cases h
    · cases hq : pickA is σ with
      | none => rw [hq] at h; cases h
      | some x => rw [hq] at h; cases h
  | i :: is, o :: ls, us, sl, ts, vs, g, r, l, h => by
    match us, l with
    | u :: us, l =>
      simp only [pickA] at h
      split at h
      · cases h
      · rename_i x hx
        cases hq : pickA is σ with
        | none => rw [hq] at h; cases h
        | some y =>
          rw [hq] at h
          simp only [Option.map_some, List.map_cons, Option.some.injEq, List.cons.injEq] at h
          obtain ⟨rfl, rfl⟩ := h
          have r1 := R.inn (i := i) (ts := ls ++ ts) (vs := us ++ vs) r hx
          exact R.puts (is := is) r1 (by simpa using l) hq
theorem R.unrot {os : List O} {us : List V} (r : R c S H (o :: (os ++ ts)) (v :: (us ++ vs)) e σ) (l : us.length = os.length) : R c S H (os ++ o :: ts) (us ++ v :: vs) e σ := by
  obtain ⟨f1, f2, h1, h2, h3⟩ := r.rep
  simp only [RepOs] at h1
  obtain ⟨w, r', q1, q2, e1, l1, l2, l3⟩ := h1
  obtain ⟨rfl, rfl⟩ := List.cons.inj e1
  obtain ⟨g1, g2, k1, k2, k3⟩ := l2.split l
  refine ⟨⟨f1, f2, ?_, h2, h3⟩, r.sub, r.ext, r.new, r.fr, r.dom, r.fix⟩
  have a : RepOs c.K c.bx S H (o :: ts) (v :: vs) (fun a => q1 a + g2 a) := by
    simp only [RepOs]
    exact ⟨v, vs, q1, g2, rfl, l1, k2, fun _ => rfl⟩
  exact (RepOs.app k1 a).fpc fun a => by (try dsimp only); rw [l3, k3]; omega
mutual
theorem RepO.anyb {K : PySem.W.Frag} {b b' : Addr → Prop} : ∀ {o : O} {v : V} {f : Fp}, RepO K b S H o v f → RepO K b' S H o v f
  | .sh d, v, f, h => by
    simp only [RepO] at h ⊢
    exact h
  | .lst os, v, f, h => by
    simp only [RepO] at h ⊢
    obtain ⟨p, vs, g, h1, h2, h3, h4⟩ := h
    exact ⟨p, vs, g, h1, h2, RepOs.anyb h3, h4⟩
  | .dct ks os, v, f, h => by
    simp only [RepO] at h ⊢
    obtain ⟨p, vs, g, h1, h2, h3, h4⟩ := h
    exact ⟨p, vs, g, h1, h2, RepOs.anyb h3, h4⟩
theorem RepOs.anyb {K : PySem.W.Frag} {b b' : Addr → Prop} : ∀ {os : List O} {vs : List V} {f : Fp}, RepOs K b S H os vs f → RepOs K b' S H os vs f
  | [], _, _, h => by
    simp only [RepOs] at h ⊢
    exact h
  | o :: os, vs, f, h => by
    simp only [RepOs] at h ⊢
    obtain ⟨v, r, f1, f2, h1, h2, h3, h4⟩ := h
    exact ⟨v, r, f1, f2, h1, RepO.anyb h2, RepOs.anyb h3, h4⟩
end
theorem RepE.anyb {K : PySem.W.Frag} {b b' : Addr → Prop} : ∀ {sl : List (Option O)} {σ : St} {f : Fp}, RepE K b S H sl σ f → RepE K b' S H sl σ f
  | [], _, _, h => by
    simp only [RepE] at h ⊢
    exact h
  | none :: sl, σ, f, h => by
    simp only [RepE] at h ⊢
    obtain ⟨x, r, h1, h2⟩ := h
    exact ⟨x, r, h1, RepE.anyb h2⟩
  | some o :: sl, σ, f, h => by
    simp only [RepE] at h ⊢
    obtain ⟨v, r, f1, f2, h1, h2, h3, h4⟩ := h
    exact ⟨v, r, f1, f2, h1, RepO.anyb h2, RepE.anyb h3, h4⟩
/-- behind a call -/
theorem R.after {S' H' : Hp} {los s : List O} {lus : List V} {fl g : Fp} (r : R c S H (los ++ ts) (lus ++ vs) e σ) (ll : lus.length = los.length)
    (hf : ∀ f1 f2 : Fp, RepOs c.K c.bx S H los lus f1 → (∀ a, f1 a = fl a))
    (h1 : Same S S') (h2 : Same S' H') (h3 : ∀ q, S' q ≠ none → S q ≠ none ∨ H q = none ∨ fl q = 1) (h4 : ∀ q u, H q = some u → fl q = 0 → H' q = some u) (hd : ∀ q, H q ≠ none → H' q ≠ none)
    (h6 : RepOs c.K c.bx S' H' (o :: s) (v :: lus) g) (h7 : ∀ a, g a ≤ 1 ∧ (g a = 1 → S' a = none ∧ (H a = none ∨ fl a = 1))) : R c S' H' ((o :: s) ++ ts) ((v :: lus) ++ vs) e σ := by
  obtain ⟨f1, f2, k1, k2, k3⟩ := r.rep
  obtain ⟨fa, ft, k4, k5, k6⟩ := k1.split ll
  have ea := hf fa f2 k4
  have lt : ∀ a, ft a + f2 a ≠ 0 → H a ≠ none := fun a z => by
    by_cases z1 : ft a = 0
    · exact RepE.laid _ _ _ k2 a (by omega)
    · exact RepOs.laid _ _ _ k5 a z1
  have un : ∀ a, ft a + f2 a ≠ 0 → H' a = H a := fun a z => by
    have l := lt a z
    cases q : H a with
    | none => exact absurd q l
    | some u =>
      have y := (k3 a).1
      rw [k6, ea] at y
      exact h4 a u q (by omega)
  refine ⟨⟨fun a => g a + ft a, f2, RepOs.app h6 (RepOs.mono h1 _ _ _ k5 fun a z => un a (by omega)), RepE.mono h1 _ _ _ k2 fun a z => un a (by omega), fun a => ?_⟩, h2, r.ext.trans h1, fun q hq => ?_, fun q u hq hb => ?_, fun q z => hd q (r.dom q z), r.fix⟩
  · have y := k3 a
    rw [k6, ea] at y
    have w := h7 a
    dsimp only
    by_cases z : g a = 0
    · refine ⟨by omega, fun q => ?_⟩
      have q1 : ft a + f2 a = 1 := by omega
      obtain ⟨p1, p2⟩ := y.2 (by omega)
      refine ⟨?_, p2⟩
      cases m : S' a with
      | none => rfl
      | some u =>
        have l := lt a (by omega)
        rcases h3 a (by rw [m]; exact Option.some_ne_none _) with n | n | n
        · exact absurd p1 n
        · exact absurd n l
        · omega
    · obtain ⟨p1, p2⟩ := w.2 (by omega)
      have y1 : ft a + f2 a = 0 := by
        by_cases q : ft a + f2 a = 0
        · exact q
        · rcases p2 with p2 | p2
          · exact absurd p2 (lt a q)
          · omega
      refine ⟨by omega, fun _ => ⟨p1, ?_⟩⟩
      rcases p2 with p2 | p2
      · exact .inl (r.h0 p2)
      · exact (y.2 (by omega)).2
  · rcases h3 q hq with n | n | n
    · exact r.new q n
    · exact .inr (.inl (r.h0 n))
    · have y := k3 q
      rw [k6, ea] at y
      exact .inr (y.2 (by omega)).2
  · refine h4 q u (r.fr q u hq hb) ?_
    have y := k3 q
    rw [k6, ea] at y
    by_cases z : fl q = 0
    · exact z
    · rcases (y.2 (by omega)).2 with p | p
      · rw [p] at hq
        cases hq
      · exact absurd p hb
mutual
theorem RepO.fpu {K : PySem.W.Frag} {b : Addr → Prop} : ∀ {o : O} {v : V} {f g : Fp}, RepO K b S H o v f → RepO K b S H o v g → ∀ a, f a = g a
  | .sh d, v, f, g, h, k, a => by
    simp only [RepO] at h k
    rw [h.2, k.2]
  | .lst os, v, f, g, h, k, a => by
    simp only [RepO] at h k
    obtain ⟨p, vs, f', h1, h2, h3, h4⟩ := h
    obtain ⟨p', vs', g', k1, k2, k3, k4⟩ := k
    rw [h1] at k1
    obtain rfl := V.ref.inj k1
    rw [h2] at k2
    obtain rfl := HO.lst.inj (Option.some.inj k2)
    rw [h4, k4, RepOs.fpu h3 k3 a]
  | .dct ks os, v, f, g, h, k, a => by
    simp only [RepO] at h k
    obtain ⟨p, vs, f', h1, ⟨h2, h0⟩, h3, h4⟩ := h
    obtain ⟨p', vs', g', k1, ⟨k2, k0⟩, k3, k4⟩ := k
    rw [h1] at k1
    obtain rfl := V.ref.inj k1
    rw [h2] at k2
    have e := HO.dK.inj (Option.some.inj k2)
    have e2 : vs = vs' := by
      have z1 := congrArg (List.map Prod.snd) e
      rw [List.map_snd_zip (by rw [h0, h3.len]; exact Nat.le_refl _), List.map_snd_zip (by rw [k0, k3.len]; exact Nat.le_refl _)] at z1
      exact z1
    subst e2
    rw [h4, k4, RepOs.fpu h3 k3 a]
theorem RepOs.fpu {K : PySem.W.Frag} {b : Addr → Prop} : ∀ {os : List O} {vs : List V} {f g : Fp}, RepOs K b S H os vs f → RepOs K b S H os vs g → ∀ a, f a = g a
  | [], vs, f, g, h, k, a => by
    simp only [RepOs] at h k
    rw [h.2, k.2]
  | o :: os, vs, f, g, h, k, a => by
    simp only [RepOs] at h k
    obtain ⟨v, r, f1, f2, h1, h2, h3, h4⟩ := h
    obtain ⟨v', r', g1, g2, k1, k2, k3, k4⟩ := k
    rw [h1] at k1
    obtain ⟨rfl, rfl⟩ := List.cons.inj k1
    rw [h4, k4, RepO.fpu h2 k2 a, RepOs.fpu h3 k3 a]
end
end
/-! ### arguments of a call: shared values, and slots that are lent -/
inductive Ar where
  | v (d : D) | l (i : Nat)
def valsA : List Ar → List D
  | [] => []
  | .v d :: as => d :: valsA as
  | .l _ :: as => valsA as
def lentA : List Ar → List Nat
  | [] => []
  | .v _ :: as => lentA as
  | .l i :: as => i :: lentA as
def Mix (σ : St) : List Ar → List V → List V → Prop
  | [], us, uv => us = [] ∧ uv = []
  | .v _ :: as, us, uv => ∃ u us' uv', us = u :: us' ∧ uv = u :: uv' ∧ Mix σ as us' uv'
  | .l i :: as, us, uv => ∃ u us', us = u :: us' ∧ σ[i]? = some (some u) ∧ Mix σ as us' uv
/-- the list of the arguments, the lent ones put in -/
def fillA : List Ar → List O → List O
  | .v d :: as, ls => .sh d :: fillA as ls
  | .l _ :: as, l :: ls => l :: fillA as ls
  | .l _ :: _, [] => []
  | [], _ => []
def posA : List Ar → Nat → List Nat
  | [], _ => []
  | .v _ :: as, n => posA as (n + 1)
  | .l _ :: as, n => n :: posA as (n + 1)
def WAL (c : Ct) (ta : TA) (e : Env) (Q : List Ar → Env → Prop) : Prop := ∀ S H ts vs σ, R c S H ts vs e σ → ∀ Q' : List V → Hp → Prop,
  (∀ as us uv e' S' H', R c S' H' ((valsA as).map O.sh ++ ts) (uv ++ vs) e' σ → uv.length = (valsA as).length → Mix σ as us uv → Q as e' → Q' us H') → ta σ H Q'
section
variable {c : Ct} {e : Env} {Q : O → Env → Prop} {QA : List Ar → Env → Prop}
theorem wal_nil (h : QA [] e) : WAL c tNil e QA := fun S H ts vs σ r Q' k => k [] [] [] _ _ _ r rfl ⟨rfl, rfl⟩ h
theorem wal_val {te : TE} {ta : TA} (h : WE c te e fun o e1 => WAL c ta e1 fun as e2 => QA (.v (toD o) :: as) e2) : WAL c (tCons te ta) e QA := fun S H ts vs σ r Q' k =>
  h S H ts vs σ r _ fun o v e1 S1 H1 r1 q => by
    obtain ⟨S2, s2, r2⟩ := r1.freeze (nobx_all _)
    refine q S2 H1 _ _ σ r2 _ fun as us uv e2 S3 H3 r3 l m q2 => ?_
    refine k (.v (toD o) :: as) (v :: us) (v :: uv) e2 S3 H3 ?_ (by simp [valsA, l]) ⟨v, us, uv, rfl, rfl, m⟩ q2
    have := R.rot r3 (by rw [l, List.length_map])
    exact this
theorem wal_lend {i : Nat} {ta : TA} {o : O} (h0 : e.sl[i]? = some (some o)) (h : WAL c ta e fun as e2 => QA (.l i :: as) e2) : WAL c (tCons (tVar i) ta) e QA := fun S H ts vs σ r Q' k => by
  obtain ⟨v, h1, _⟩ := r.out h0
  exact ⟨v, h1, h S H ts vs σ r _ fun as us uv e2 S3 H3 r3 l m q2 => k (.l i :: as) (v :: us) uv e2 S3 H3 r3 l ⟨v, us, rfl, h1, m⟩ q2⟩
theorem fill_rep {K : PySem.W.Frag} {b : Addr → Prop} {S H : Hp} {σ : St} : ∀ {as : List Ar} {us uv lus : List V} {ls : List O} {f : Fp}, Mix σ as us uv → Reps K S (valsA as) uv → RepOs K b S H ls lus f → pickA (lentA as) σ = some (lus.map some) →
    RepOs K b S H (fillA as ls) us f ∧ (fillA as ls).length = as.length ∧ ∀ n (pre : List V), pre.length = n → pickA (posA as n) (pre ++ us) = some lus
  | [], us, uv, lus, ls, f, m, hv, hl, hp => by
    obtain ⟨rfl, rfl⟩ := m
    simp only [lentA, pickA, Option.some.injEq] at hp
    have e : lus = [] := by simpa using hp.symm
    subst e
    have e : ls = [] := by
      have := hl.len
      exact List.length_eq_zero_iff.mp this.symm
    subst e
    exact ⟨hl, rfl, fun n pre _ => rfl⟩
  | .v d :: as, us, uv, lus, ls, f, m, hv, hl, hp => by
    obtain ⟨u, us', uv', rfl, rfl, m⟩ := m
    simp only [valsA, Reps] at hv
    obtain ⟨v, r, e1, h1, h2⟩ := hv
    obtain ⟨rfl, rfl⟩ := List.cons.inj e1
    obtain ⟨a1, a2, a3⟩ := fill_rep (as := as) m h2 hl hp
    refine ⟨?_, by simp [fillA, a2], fun n pre hn => ?_⟩
    · simp only [fillA, RepOs, RepO]
      exact ⟨u, us', fun _ => 0, f, rfl, ⟨h1, fun _ => rfl⟩, a1, fun a => by (try dsimp only); omega⟩
    · simp only [posA]
      have := a3 (n + 1) (pre ++ [u]) (by simp [hn])
      rw [List.append_assoc] at this
      exact this
  | .l i :: as, us, uv, lus, ls, f, m, hv, hl, hp => by
    obtain ⟨u, us', rfl, hu, m⟩ := m
    simp only [lentA, pickA, hu] at hp
    cases hq : pickA (lentA as) σ with
    | none => rw [hq] at hp; cases hp
    | some y =>
      rw [hq] at hp
      simp only [Option.map_some, Option.some.injEq] at hp
      match lus, hp with
      | w :: lus, hp =>
        simp only [List.map_cons, List.cons.injEq, Option.some.injEq] at hp
        obtain ⟨rfl, rfl⟩ := hp
        match ls, hl with
        | o :: ls, hl =>
          simp only [RepOs] at hl
          obtain ⟨v, r, f1, f2, e1, k1, k2, k3⟩ := hl
          obtain ⟨rfl, rfl⟩ := List.cons.inj e1
          obtain ⟨a1, a2, a3⟩ := fill_rep (as := as) m hv k2 hq
          refine ⟨?_, by simp [fillA, a2], fun n pre hn => ?_⟩
          · simp only [fillA, RepOs]
            exact ⟨u, us', f1, f2, rfl, k1, a1, k3⟩
          · simp only [posA, pickA]
            have e0 : (pre ++ u :: us')[n]? = some u := by
              rw [List.getElem?_append_right (by omega), hn, Nat.sub_self]
              rfl
            rw [e0]
            have := a3 (n + 1) (pre ++ [u]) (by simp [hn])
            rw [List.append_assoc] at this
            rw [show pre ++ u :: us' = pre ++ ([u] ++ us') from rfl, this]
            rfl
        | [], hl =>
          simp only [RepOs] at hl
          cases hl.1
def runA (C : Con) (as : List Ar) (sl : Sl) : Rs Sl O := match takeL (lentA as) sl with
  | some (ls, s2) => match C.run (fillA as ls) with
    | .ok o ls' => if ls'.length = (lentA as).length then .ok o (putL (lentA as) ls' s2) else .bad
    | .ex x ls' => .ex x (putL (lentA as) ls' s2)
    | .bad => .bad
  | none => .bad
/-- a call, by the def's contract -/
theorem call_by {C : Con} {S H : Hp} {ts : List O} {vs us uv : List V} {σ : St} {as : List Ar} {e1 : Env} {Q' : VK} {E : XK} (r : R c S H ((valsA as).map O.sh ++ ts) (uv ++ vs) e1 σ) (l : uv.length = (valsA as).length) (m : Mix σ as us uv)
    (q1 : as.length = C.n) (q2 : posA as 0 = C.fx) (q3 : (runA C as e1.sl).holds fun o s => Q o ⟨s, e1.g⟩) (k : ∀ o v e' S' H', R c S' H' (o :: ts) (v :: vs) e' σ → Q o e' → Q' v H') : spT c.K C us H Q' E := by
  have hv := r.sh_all l
  have r1 := r.pops (by rw [l, List.length_map])
  unfold runA at q3
  cases ht : takeL (lentA as) e1.sl with
  | none =>
    rw [ht] at q3
    exact q3.elim
  | some lsq =>
    obtain ⟨ls, s2⟩ := lsq
    rw [ht] at q3
    dsimp only at q3
    obtain ⟨lus, k1, k2, r2⟩ := R.takes (sl := e1.sl) (g := e1.g) r1 ht
    obtain ⟨f1, f2, p1, p2, p3⟩ := r2.rep
    obtain ⟨fl, ft, p4, p5, p6⟩ := p1.split k1
    obtain ⟨b1, b2, b3⟩ := fill_rep m hv p4 k2
    have b4 := b3 0 [] rfl
    simp only [List.nil_append] at b4
    rw [q2] at b4
    refine ⟨S, c.bx, fillA as ls, fl, r2.sub, b1, fun a => ?_, by rw [b2, q1], ?_⟩
    · have := p3 a
      rw [p6] at this
      exact ⟨by omega, fun z => (this.2 (by omega)).1⟩
    · cases hrun : C.run (fillA as ls) with
      | bad =>
        rw [hrun] at q3
        exact q3.elim
      | ex x l2 =>
        rw [hrun] at q3
        exact q3.elim
      | ok o2 ls2 =>
        rw [hrun] at q3
        dsimp only at q3 ⊢
        by_cases hlen : ls2.length = (lentA as).length
        · rw [if_pos hlen] at q3
          intro v S' H' g us' h1 h2 h3 h4 h5 h6 h7 h8
          rw [b4] at h6
          cases h6
          have r3 := R.after (fl := fl) r2 k1 (fun fa _ z a => RepOs.fpu z p4 a) h1 h2 h3 h4 h5 h7 h8
          have hll : lus.length = ls2.length := by
            have := h7.len
            simpa using this
          have r4 : R c S' H' (ls2 ++ (o2 :: ts)) (lus ++ (v :: vs)) ⟨s2, e1.g⟩ σ := R.unrot (os := ls2) (us := lus) r3 hll
          exact k o2 v _ S' H' (R.puts r4 hll k2) q3
        · rw [if_neg hlen] at q3
          exact q3.elim
theorem we_callL {C : Con} {E : XK} {ta : TA} (h : WAL c ta e fun as e1 => as.length = C.n ∧ posA as 0 = C.fx ∧ (runA C as e1.sl).holds fun o s => Q o ⟨s, e1.g⟩) : WE c (tCall (spT c.K C) [] E ta) e Q := fun S H ts vs σ rr Q' k =>
  h S H ts vs σ rr _ fun as us uv e1 S1 H1 r1 l m ⟨q1, q2, q3⟩ => by
    rw [List.append_nil]
    exact call_by r1 l m q1 q2 q3 k
theorem start_fix {os : List O} : ∀ {K : PySem.W.Frag} {b : Addr → Prop} {S H : Hp} {vs : List V} {f : Fp} (n : Nat), RepOs K b S H os vs f → RepE K b S H (os.map some ++ List.replicate n none) (vs.map some ++ List.replicate n none) f := by
  intro K b S H
  induction os with
  | nil =>
    intro vs f n h
    simp only [RepOs] at h
    rw [h.1]
    induction n with
    | zero => simp only [List.replicate, List.map_nil, List.append_nil, RepE]; exact ⟨trivial, h.2⟩
    | succ n ih =>
      simp only [List.map_nil, List.nil_append, List.replicate_succ, RepE] at ih ⊢
      exact ⟨none, _, rfl, ih⟩
  | cons o os ih =>
    intro vs f n h
    simp only [RepOs] at h
    obtain ⟨v, r, f1, f2, rfl, k1, k2, k3⟩ := h
    simp only [List.map_cons, List.cons_append, RepE]
    exact ⟨v, _, f1, f2, rfl, k1, ih n k2, k3⟩
theorem pick_start : ∀ {fx : List Nat} {vs : List V} {n : Nat} {us : List V}, (∀ i ∈ fx, i < vs.length) → pickA fx (vs.map some ++ List.replicate n none) = some (us.map some) → pickA fx vs = some us
  | [], vs, n, us, _, h => by
    simp only [pickA, Option.some.injEq] at h ⊢
    have e : us = [] := by simpa using h.symm
    rw [e]
  | i :: fx, vs, n, us, hl, h => by
    have li := hl i List.mem_cons_self
    simp only [pickA] at h ⊢
    rw [List.getElem?_append_left (by simpa using li), List.getElem?_map, List.getElem?_eq_getElem li] at h
    rw [List.getElem?_eq_getElem li]
    simp only [Option.map_some] at h ⊢
    cases hq : pickA fx (vs.map some ++ List.replicate n none) with
    | none => rw [hq] at h; cases h
    | some y =>
      rw [hq] at h
      simp only [Option.map_some, Option.some.injEq] at h
      match us, h with
      | u :: us, h =>
        simp only [List.map_cons, List.cons.injEq, Option.some.injEq] at h
        obtain ⟨rfl, rfl⟩ := h
        rw [pick_start (fun j hj => hl j (List.mem_cons_of_mem _ hj)) hq]
        rfl
def endOf (C : Con) (o : O) (sl : Sl) (r : Rs (List O) O) : Prop := ∃ ls s2, takeL C.fx sl = some (ls, s2) ∧ r = .ok o ls
/-- a def's body keeps its contract -/
theorem fn_tw {K : PySem.W.Frag} {C : Con} {t : TS} {N : List Str} {vs : List V} {H : Hp} {Q : VK} {E : XK} (hC : spT K C vs H Q E) (hfx : ∀ i ∈ C.fx, i < C.n)
    (h : ∀ (c : Ct) (os : List O), c.K = K → c.fx = C.fx → os.length = C.n → (∃ o ls, C.run os = .ok o ls) → WS c t ⟨os.map some ++ List.replicate (N.length - C.n) none, 0⟩ ⟨fun e => endOf C (.sh .non) e.sl (C.run os), fun o e => endOf C o e.sl (C.run os), fun _ => False, fun _ => False⟩) :
    t { nx := fun _ H' => Q .non H', rt := Q } (L2.start N vs) H := by
  obtain ⟨S, b, os, f, h1, h3, h4, h5, q⟩ := hC
  have lv : vs.length = C.n := by rw [h3.len, h5]
  split at q
  · rename_i o0 ls0 hrun
    have est : L2.start N vs = vs.map some ++ List.replicate (N.length - C.n) none := by
      unfold L2.start
      rw [lv]
    have r0 : R ⟨K, H, S, fun a => f a = 1, L2.start N vs, C.fx⟩ S H [] [] ⟨os.map some ++ List.replicate (N.length - C.n) none, 0⟩ (L2.start N vs) := by
      refine ⟨⟨fun _ => 0, f, by simp [RepOs], ?_, fun a => ⟨by have := (h4 a).1; (try dsimp only); omega, fun z => ?_⟩⟩, h1, Same.refl S, fun q z => .inl z, fun q o z _ => z, fun q z => z, fun i _ => rfl⟩
      · rw [est]
        exact start_fix _ (h3.anyb)
      · have z1 : f a = 1 := by (try dsimp only at z); omega
        exact ⟨(h4 a).2 z1, .inr z1⟩
    have fin : ∀ (o : O) (v : V) (e' : Env) (S' H' : Hp) (σ' : St), R ⟨K, H, S, fun a => f a = 1, L2.start N vs, C.fx⟩ S' H' [o] [v] e' σ' → endOf C o e'.sl (C.run os) → Q v H' := fun o v e' S' H' σ' r ⟨ls, s2, t1, t2⟩ => by
      rw [hrun] at t2
      cases t2
      obtain ⟨us, k1, k2, r2⟩ := R.takes (sl := e'.sl) (g := e'.g) r t1
      have k3 : pickA C.fx (L2.start N vs) = some (us.map some) := by
        rw [← k2]
        have : ∀ fx : List Nat, (∀ i ∈ fx, i ∈ C.fx) → pickA fx (L2.start N vs) = pickA fx σ' := by
          intro fx
          induction fx with
          | nil => intro _; rfl
          | cons i fx ih =>
            intro hi
            simp only [pickA]
            rw [← r.fix i (hi i List.mem_cons_self), ih fun j hj => hi j (List.mem_cons_of_mem _ hj)]
        exact (this _ fun i hi => hi)
      rw [est] at k3
      have k4 := pick_start (fun i hi => by rw [lv]; exact hfx i hi) k3
      have r3 : R ⟨K, H, S, fun a => f a = 1, L2.start N vs, C.fx⟩ S' H' (o0 :: ls0) (v :: us) ⟨s2, e'.g⟩ σ' := by
        have := R.rot (os := ls0) (us := us) (ts := []) (vs := []) r2 k1
        simpa using this
      obtain ⟨f1, f2, p1, p2, p3⟩ := r3.rep
      refine q v S' H' f1 us r3.ext r3.sub r3.new (fun q u hq hz => r3.fr q u hq (by show ¬ f q = 1; omega)) r3.dom k4 p1.anyb fun a => ?_
      have y := p3 a
      exact ⟨by omega, fun z => y.2 (by omega)⟩
    refine h ⟨K, H, S, fun a => f a = 1, L2.start N vs, C.fx⟩ os rfl rfl h5 ⟨o0, ls0, hrun⟩ S H [] [] (L2.start N vs) r0 _ (fun e' S' H' σ' r z => ?_) (fun o v e' S' H' σ' r z => fin o v e' S' H' σ' r z) (fun e' S' H' σ' r z => z.elim) (fun e' S' H' σ' r z => z.elim)
    exact fin (.sh .non) .non e' S' H' σ' (r.push (d := .non) rfl) z
  · exact q.elim
theorem spT_len {K : PySem.W.Frag} {C : Con} {vs : List V} {H : Hp} {Q : VK} {E : XK} (hC : spT K C vs H Q E) : vs.length = C.n := by
  obtain ⟨S, b, os, f, h1, h3, h4, h5, q⟩ := hC
  rw [h3.len, h5]
end

/-! ### what a loop walks -/
def Good (K : PySem.W.Frag) (J : It) (ds xt : List D) (xv : List V) : Prop := ∀ S H : Hp, Same S H → Reps K S xt xv → (∀ i, ds.length ≤ i → J.stop i H) ∧
  ∀ (i : Nat) (d : D), ds[i]? = some d → J.go i H ∧ ∀ x H', J.yld i H x H' → (H' = H ∧ Rep K S d x) ∨ ∃ T u, H T = none ∧ H' = upd H T u ∧ Rep K (upd S T u) d x
def WI (c : Ct) (wi : TI) (e : Env) (Q : List D → Env → Prop) : Prop := ∀ S H ts vs σ, R c S H ts vs e σ → ∀ R' : It → Hp → Prop,
  (∀ J ds xt xv e1 S1 H1, R c S1 H1 (xt.map O.sh ++ ts) (xv ++ vs) e1 σ → xv.length = xt.length → Good c.K J ds xt xv → Q ds e1 → R' J H1) → wi σ H R'
section
variable {c : Ct} {e : Env}
theorem sqL_sub {K : PySem.W.Frag} {S H : Hp} (s : Same S H) {a : Addr} {xs : List V} (h : SqL K S a xs) : SqL K H a xs := s.seq h
theorem Reps.get {K : PySem.W.Frag} {S : Hp} : ∀ {ds : List D} {xs : List V} {i : Nat} {d : D}, Reps K S ds xs → ds[i]? = some d → ∃ x, xs[i]? = some x ∧ Rep K S d x
  | [], xs, i, d, h, z => by simp at z
  | d' :: ds, xs, 0, d, h, z => by
    simp only [Reps] at h
    obtain ⟨v, r, rfl, h1, h2⟩ := h
    have e : d' = d := by simpa using z
    subst e
    exact ⟨v, rfl, h1⟩
  | d' :: ds, xs, i + 1, d, h, z => by
    simp only [Reps] at h
    obtain ⟨v, r, rfl, h1, h2⟩ := h
    obtain ⟨x, k1, k2⟩ := Reps.get (i := i) h2 (by simpa using z)
    exact ⟨x, by simpa using k1, k2⟩
/-- a list or a tuple -/
def iSeq (K : PySem.W.Frag) (tl : TE) : TI := fun σ H R => tl σ H fun x H1 => ∃ a, x = .ref a ∧ (((∃ xs, SqL K H1 a xs) ∧ R (Itl K a) H1) ∨ ((∃ xs, SqT K H1 a xs) ∧ R (Itt K a) H1))
theorem pi_seq {X : Cx} {tg l : Expr} {tl : TE} (hl : PE X l tl) : PI X tg l (iSeq X.K tl) := by
  refine ⟨fun pn s0 sg Hh Rr Ii hw => ?_⟩
  refine thn (hl.run pn s0 sg Hh _ Ii hw) fun vv s2 ⟨y, H2, I2, r2, ad, ey, q2⟩ => ?_
  subst ey
  cases r2
  have fp : ∀ bb ∈ [s2.heap.objs.size], FpOk X pn H2 bb := fun bb hbb => by
    obtain rfl : bb = s2.heap.objs.size := by simpa using hbb
    exact I2.fpOk (Nat.le_refl _) (I2.hok.fresh (Nat.le_refl _))
  rcases q2 with ⟨⟨zs, hz⟩, qq⟩ | ⟨⟨zs, hz⟩, qq⟩
  · obtain ⟨us, ru, pl, _⟩ := I2.list hz
    exact wpAny_pyIter_list pl.isList ⟨_, [s2.heap.objs.size], _, _, H2, rfl, I2.kept (t' := s2.toks) (fun _ _ ee => Heap.get?_push_of_some _ ee), turn_list ad _, ⟨_, Heap.get?_push_size _ rfl, rfl, rfl⟩, fp, qq⟩
  · obtain ⟨us, ru, pl, _⟩ := I2.tuple hz
    exact wpAny_pyIter_tuple (show s2.heap.IsTuple ad us.toArray from pl) ⟨_, [s2.heap.objs.size], _, _, H2, rfl, I2.kept (t' := s2.toks) (fun _ _ ee => Heap.get?_push_of_some _ ee), turn_tuple ad _, ⟨_, Heap.get?_push_size _ rfl, rfl, rfl⟩, fp, qq⟩
theorem good_list {K : PySem.W.Frag} {ds : List D} {a : Addr} {d0 : D} (h0 : d0 = .lst ds) : Good K (Itl K a) ds [d0] [.ref a] := fun S H s h => by
  subst h0
  simp only [Reps, Rep] at h
  obtain ⟨v, r, e1, ⟨p, vs, e2, h1, h2⟩, e3⟩ := h
  obtain ⟨rfl, rfl⟩ := List.cons.inj e1
  obtain rfl := V.ref.inj e2
  refine ⟨fun i hi => ⟨vs, .of (s _ _ h1), by rw [h2.len]; exact hi⟩, fun i d hd => ?_⟩
  obtain ⟨x, k1, k2⟩ := h2.get hd
  exact ⟨⟨vs, x, .of (s _ _ h1), k1⟩, fun y H' ⟨e4, hy⟩ => .inl ⟨e4, by
    have := hy vs (.of (s _ _ h1))
    rw [k1] at this
    cases this
    exact k2⟩⟩
theorem good_tup {K : PySem.W.Frag} {ds : List D} {a : Addr} {d0 : D} (h0 : d0 = .tup ds) : Good K (Itt K a) ds [d0] [.ref a] := fun S H s h => by
  subst h0
  simp only [Reps, Rep] at h
  obtain ⟨v, r, e1, ⟨p, vs, o, e2, h1, ho, h2⟩, e3⟩ := h
  obtain ⟨rfl, rfl⟩ := List.cons.inj e1
  obtain rfl := V.ref.inj e2
  refine ⟨fun i hi => ⟨vs, tupQ s h1, by rw [h2.len]; exact hi⟩, fun i d hd => ?_⟩
  obtain ⟨x, k1, k2⟩ := h2.get hd
  exact ⟨⟨vs, x, tupQ s h1, k1⟩, fun y H' ⟨e4, hy⟩ => .inl ⟨e4, by
    have := hy vs (tupQ s h1)
    rw [k1] at this
    cases this
    exact k2⟩⟩
theorem wi_seq {tl : TE} {Q : List D → Env → Prop} (h : WE c tl e fun o e1 => nobx o = true ∧ ∃ ds, (toD o = .lst ds ∨ toD o = .tup ds) ∧ Q ds e1) : WI c (iSeq c.K tl) e Q := fun S H ts vs σ r R' k =>
  h S H ts vs σ r _ fun o v e1 S1 H1 r1 ⟨n, ds, hd, q⟩ => by
    obtain ⟨S2, s2, r2⟩ := r1.freeze n
    have t := r2.top
    rcases hd with hd | hd
    · rw [hd] at t
      simp only [Rep] at t
      obtain ⟨p, xs, rfl, t1, t2⟩ := t
      exact ⟨p, rfl, .inl ⟨⟨xs, .of (r2.sub _ _ t1)⟩, k _ ds [toD o] [.ref p] e1 S2 H1 r2 rfl (good_list hd) q⟩⟩
    · rw [hd] at t
      simp only [Rep] at t
      obtain ⟨p, xs, o', rfl, t1, t0, t2⟩ := t
      exact ⟨p, rfl, .inr ⟨⟨xs, tupQ r2.sub t1⟩, k _ ds [toD o] [.ref p] e1 S2 H1 r2 rfl (good_tup hd) q⟩⟩
def rngD (lo : Int) (n : Nat) : List D := (List.range n).map fun (k : Nat) => D.int (lo + (k : Int))
theorem good_rng {K : PySem.W.Frag} {lo : Int} {n : Nat} : Good K (Itr lo n) (rngD lo n) [] [] := fun S H s h => by
  refine ⟨fun i hi => ?_, fun i d hd => ?_⟩
  · simp only [rngD, List.length_map, List.length_range] at hi
    exact hi
  · simp only [rngD, List.getElem?_map] at hd
    by_cases hi : i < n
    · rw [List.getElem?_range hi] at hd
      simp only [Option.map_some, Option.some.injEq] at hd
      subst hd
      exact ⟨hi, fun y H' ⟨e1, e2⟩ => .inl ⟨e1, by simp only [Rep]; exact e2⟩⟩
    · rw [List.getElem?_eq_none (by rw [List.length_range]; omega)] at hd
      simp at hd
theorem wi_rng1 {ta : TA} {Q : List D → Env → Prop} (h : WA c ta e fun os e1 => ∃ j : Int, os = [.sh (.int j)] ∧ -(2 ^ 62) ≤ j ∧ j < 2 ^ 62 ∧ Q (rngD 0 j.toNat) e1) : WI c (iRng1 ta) e Q := fun S H ts vs σ r R' k =>
  h S H ts vs σ r _ fun os us e1 S1 H1 r1 l ⟨j, e2, h1, h2, q⟩ => by
    subst e2
    obtain ⟨u, rfl⟩ : ∃ u, us = [u] := by
      match us, l with
      | [u], _ => exact ⟨u, rfl⟩
    have t : u = V.int j := r1.top
    subst t
    exact ⟨j, rfl, h1, h2, k _ _ [] [] e1 S1 H1 r1.pop rfl good_rng q⟩
theorem wi_rng2 {ta : TA} {Q : List D → Env → Prop} (h : WA c ta e fun os e1 => ∃ i j : Int, os = [.sh (.int i), .sh (.int j)] ∧ (-(2 ^ 62) ≤ i ∧ i < 2 ^ 62 ∧ -(2 ^ 62) ≤ j ∧ j < 2 ^ 62) ∧ Q (rngD i (j - i).toNat) e1) : WI c (iRng2 ta) e Q := fun S H ts vs σ r R' k =>
  h S H ts vs σ r _ fun os us e1 S1 H1 r1 l ⟨i, j, e2, h1, q⟩ => by
    subst e2
    obtain ⟨u, w, rfl⟩ : ∃ u w, us = [u, w] := by
      match us, l with
      | [u, w], _ => exact ⟨u, w, rfl⟩
    have t : u = V.int i := r1.top
    have t2 : w = V.int j := r1.pop.top
    subst t t2
    exact ⟨i, j, rfl, h1, k _ _ [] [] e1 S1 H1 r1.pop.pop rfl good_rng q⟩

/-! ### loops -/
section
variable (c : Ct)
def WFor (g : TG) (tb : TS) (P : Post) : List D → Env → Prop
  | [], e => P.nx e
  | d :: ds, e => WG c g (.sh d) e fun e2 => WS c tb e2 { P with nx := WFor g tb P ds, ct := WFor g tb P ds, bk := P.nx }
def WWh (tc : TT) (tb : TS) (P : Post) : Nat → Env → Prop
  | 0, _ => False
  | n + 1, e => WT c tc e fun b e1 => if b = true then WS c tb e1 { P with nx := WWh tc tb P n, ct := WWh tc tb P n, bk := P.nx } else P.nx e1
end
theorem item {J : It} {ds xt : List D} {xv : List V} {S H : Hp} {ts : List O} {vs : List V} {σ : St} {i : Nat} {d : D} {x : V} {H' : Hp} (G : Good c.K J ds xt xv) (r : R c S H ts vs e σ) (k : Reps c.K S xt xv) (hd : ds[i]? = some d) (y : J.yld i H x H') :
    ∃ S', Same S S' ∧ R c S' H' (.sh d :: ts) (x :: vs) e σ := by
  rcases ((G S H r.sub k).2 i d hd).2 x H' y with ⟨rfl, q⟩ | ⟨T, u, hT, rfl, q⟩
  · exact ⟨S, Same.refl S, r.push q⟩
  · obtain ⟨r2, s2⟩ := r.share (u := u) hT
    exact ⟨_, s2, r2.push q⟩
theorem ws_for {wi : TI} {g : TG} {tb : TS} {P : Post} (h : WI c wi e fun ds e1 => WFor c g tb P ds e1) : WS c (tFor wi g tb) e P := fun S H ts vs σ r D d1 d2 d3 d4 =>
  h S H ts vs σ r _ fun J ds xt xv e1 S1 H1 r1 l G q => by
    refine ⟨fun i m σ' H' => m = ds.length - i ∧ i ≤ ds.length ∧ ∃ S' e', R c S' H' (xt.map O.sh ++ ts) (xv ++ vs) e' σ' ∧ WFor c g tb P (ds.drop i) e', ⟨ds.length, by simp, Nat.zero_le _, S1, e1, r1, q⟩, ?_⟩
    rintro i m σ' H' ⟨rfl, hi, S', e', r', w⟩
    have kx := r'.sh_all l
    by_cases hlt : i < ds.length
    · have hd : ds[i]? = some ds[i] := List.getElem?_eq_getElem hlt
      obtain ⟨go, yl⟩ := (G S' H' r'.sub kx).2 i _ hd
      refine .inr ⟨go, fun σ2 H2 => ∃ S2 e2, R c S2 H2 (xt.map O.sh ++ ts) (xv ++ vs) e2 σ2 ∧ WFor c g tb P (ds.drop (i + 1)) e2, fun σ2 H2 ⟨S2, e2, r2, w2⟩ => ⟨_, by omega, rfl, hlt, S2, e2, r2, w2⟩, fun x H2 y => ?_⟩
      obtain ⟨S2, s2, r2⟩ := item G r' kx hd y
      rw [List.drop_eq_getElem_cons hlt] at w
      simp only [WFor] at w
      refine w S2 H2 _ _ x σ' r2 _ fun e3 S3 H3 σ3 r3 z => ?_
      refine z S3 H3 _ _ σ3 r3 _ (fun e4 S4 H4 σ4 r4 z4 => ⟨S4, e4, r4, z4⟩) (fun o v e4 S4 H4 σ4 r4 z4 => ?_) (fun e4 S4 H4 σ4 r4 z4 => ?_) (fun e4 S4 H4 σ4 r4 z4 => ⟨S4, e4, r4, z4⟩)
      · have r5 : R c S4 H4 ((o :: xt.map O.sh) ++ ts) ((v :: xv) ++ vs) e4 σ4 := r4
        have : ∀ (xt : List TX.D) (xv : List V), xv.length = xt.length → R c S4 H4 ((o :: xt.map O.sh) ++ ts) ((v :: xv) ++ vs) e4 σ4 → R c S4 H4 (o :: ts) (v :: vs) e4 σ4 := by
          intro xt
          induction xt with
          | nil =>
            intro xv l r
            have e : xv = [] := List.length_eq_zero_iff.mp l
            subst e
            exact r
          | cons d xt ih =>
            intro xv l r
            match xv, l with
            | x' :: xv, l => exact ih xv (by simpa using l) (R.swap r).pop
        exact d2 o v e4 S4 H4 σ4 (this xt xv l r5) z4
      · exact d1 e4 S4 H4 σ4 (r4.pops (by rw [l, List.length_map])) z4
    · have e0 : i = ds.length := by omega
      subst e0
      rw [List.drop_length] at w
      simp only [WFor] at w
      exact .inl ⟨(G S' H' r'.sub kx).1 _ (Nat.le_refl _), d1 e' S' H' σ' (r'.pops (by rw [l, List.length_map])) w⟩
theorem ws_while {tc : TT} {tb : TS} {P : Post} (n : Nat) (h : WWh c tc tb P n e) : WS c (tWhile tc tb) e P := fun S H ts vs σ r D d1 d2 d3 d4 => by
  refine ⟨fun m σ' H' => ∃ S' e', R c S' H' ts vs e' σ' ∧ WWh c tc tb P m e', ⟨n, S, e, r, h⟩, ?_⟩
  rintro m σ' H' ⟨S', e', r', w⟩
  cases m with
  | zero =>
    simp only [WWh] at w
  | succ m =>
    simp only [WWh] at w
    refine w S' H' ts vs σ' r' _ fun b e2 S2 H2 r2 z => ?_
    cases b with
    | true =>
      rw [if_pos rfl] at z
      rw [if_pos rfl]
      exact ⟨fun σ3 H3 => ∃ S3 e3, R c S3 H3 ts vs e3 σ3 ∧ WWh c tc tb P m e3, fun σ3 H3 z3 => ⟨m, by omega, z3⟩, z S2 H2 ts vs σ' r2 _ (fun e4 S4 H4 σ4 r4 z4 => ⟨S4, e4, r4, z4⟩) d2 d1 (fun e4 S4 H4 σ4 r4 z4 => ⟨S4, e4, r4, z4⟩)⟩
    | false =>
      rw [if_neg Bool.false_ne_true] at z
      rw [if_neg Bool.false_ne_true]
      exact d1 e2 S2 H2 σ' r2 z

/-! ### comprehensions -/
def wipeS (sl : List (Option O)) : List Nat → List (Option O)
  | [] => sl
  | v :: vs => (wipeS sl vs).set v none
theorem R.wipe {S H : Hp} {ts : List O} {vs : List V} {σ : St} : ∀ (own : List Nat), (∀ i ∈ own, i ∉ c.fx) → R c S H ts vs e σ → R c S H ts vs ⟨wipeS e.sl own, e.g⟩ (wipe σ own)
  | [], _, r => r
  | i :: own, d, r => by
    have r2 := (R.wipe own (fun j hj => d j (List.mem_cons_of_mem _ hj)) r).forget (i := i) (x := none) (d i (List.mem_cons_self ..))
    exact r2
theorem RepE.other {K : PySem.W.Frag} {b : Addr → Prop} {S H : Hp} : ∀ {sl : List (Option O)} {σ σ2 : St} {f : Fp}, RepE K b S H sl σ f → σ2.length = σ.length → (∀ i : Nat, sl[i]? ≠ some none → σ2[i]? = σ[i]?) → RepE K b S H sl σ2 f
  | [], σ, σ2, f, h, l, k => by
    simp only [RepE] at h ⊢
    obtain ⟨rfl, h2⟩ := h
    exact ⟨List.length_eq_zero_iff.mp l, h2⟩
  | none :: sl, σ, σ2, f, h, l, k => by
    simp only [RepE] at h ⊢
    obtain ⟨x, r, rfl, h2⟩ := h
    match σ2, l with
    | y :: r2, l => exact ⟨y, r2, rfl, RepE.other h2 (by simpa using l) fun i hi => by simpa using k (i + 1) (by simpa using hi)⟩
  | some o :: sl, σ, σ2, f, h, l, k => by
    simp only [RepE] at h ⊢
    obtain ⟨v, r, f1, f2, rfl, h1, h2, h3⟩ := h
    match σ2, l with
    | y :: r2, l =>
      have e0 : y = some v := by simpa using k 0 (by simp)
      subst e0
      exact ⟨v, r2, f1, f2, rfl, h1, RepE.other h2 (by simpa using l) fun i hi => by simpa using k (i + 1) (by simpa using hi), h3⟩
theorem wipeS_none : ∀ (own : List Nat) (sl : List (Option O)) (i : Nat), i ∈ own → i < sl.length → (wipeS sl own)[i]? = some none
  | v :: vs, sl, i, h, l => by
    have ll : ∀ vs, (wipeS sl vs).length = sl.length := fun vs => by
      induction vs with
      | nil => rfl
      | cons v vs ih => simp only [wipeS, List.length_set, ih]
    unfold wipeS
    by_cases e : v = i
    · subst e
      rw [List.getElem?_set_self (by rw [ll]; exact l)]
    · rw [List.getElem?_set_ne e]
      exact wipeS_none vs sl i (by simpa [Ne.symm e] using h) l
theorem wipe_get : ∀ (own : List Nat) (σ : St) (i : Nat), i ∉ own → (wipe σ own)[i]? = σ[i]?
  | [], σ, i, h => rfl
  | v :: vs, σ, i, h => by
    simp only [List.mem_cons, not_or] at h
    unfold wipe
    rw [List.getElem?_set_ne (Ne.symm h.1)]
    exact wipe_get vs σ i h.2
theorem R.unwipe {S H : Hp} {ts : List O} {vs : List V} {σ : St} {own : List Nat} {sl : List (Option O)} {g : Nat} (d : ∀ i ∈ own, i ∉ c.fx) (r : R c S H ts vs ⟨wipeS sl own, g⟩ (L2.wipe σ own)) : R c S H ts vs ⟨wipeS sl own, g⟩ σ := by
  obtain ⟨f1, f2, h1, h2, h3⟩ := r.rep
  have hl := h2.len
  rw [wipe_length] at hl
  refine ⟨⟨f1, f2, h1, RepE.other h2 (wipe_length σ own).symm fun i hi => ?_, h3⟩, r.sub, r.ext, r.new, r.fr, r.dom, fun i hi => by
    rw [← r.fix i hi]
    exact (wipe_get own σ i fun z => d i z hi).symm⟩
  by_cases hm : i ∈ own
  · by_cases hlt : i < sl.length
    · exact absurd (wipeS_none own sl i hm hlt) hi
    · have ll : ∀ vs, (wipeS sl vs).length = sl.length := fun vs => by
        induction vs with
        | nil => rfl
        | cons v vs ih => simp only [wipeS, List.length_set, ih]
      rw [List.getElem?_eq_none (by rw [hl, ll]; omega), List.getElem?_eq_none (by rw [wipe_length, hl, ll]; omega)]
  · exact (wipe_get own σ i hm).symm
/-- a comprehension's target -/
def WGW (c : Ct) (own : List Nat) (g : TG) (o : O) (e : Env) (Q : Env → Prop) : Prop := ∀ S H ts vs v σ, R c S H (o :: ts) (v :: vs) e σ → ∀ Q' : St → Hp → Prop, (∀ e' S' H' σ', R c S' H' ts vs e' σ' → wipe σ' own = wipe σ own → Q e' → Q' σ' H') → g v σ H Q'
theorem wipe_set : ∀ (own : List Nat) (σ : St) (i : Nat) (x : Option V), i ∈ own → wipe (σ.set i x) own = wipe σ own
  | v :: vs, σ, i, x, h => by
    unfold wipe
    by_cases hm : i ∈ vs
    · rw [wipe_set vs σ i x hm]
    · have e0 : i = v := by simpa [hm] using h
      subst e0
      have : ∀ (vs : List Nat) (σ : St), i ∉ vs → wipe (σ.set i x) vs = (wipe σ vs).set i x := by
        intro vs
        induction vs with
        | nil => intro σ _; rfl
        | cons w vs ih =>
          intro σ hm
          simp only [List.mem_cons, not_or] at hm
          unfold wipe
          rw [ih σ hm.2, List.set_comm _ _ hm.1]
      rw [this vs σ hm, List.set_set]
theorem wgw_name {i : Nat} {own : List Nat} {o : O} {G : Env → Prop} (hf : i ∉ c.fx) (hi : i ∈ own) (h : G ⟨e.sl.set i (some o), e.g⟩) : WGW c own (gName i) o e G := fun S H ts vs v σ rr Q' k => k _ _ _ _ (rr.put hf) (wipe_set own σ i _ hi) h
def WLc (c : Ct) (g : TG) (tt : TT) (te : TE) (own : List Nat) (Q : O → Env → Prop) : List D → List O → Env → Prop
  | [], acc, e => Q (.lst acc) e
  | d :: ds, acc, e => WGW c own g (.sh d) e fun e2 => WT c tt e2 fun b e3 => if b = true then WE c te e3 fun o e4 => acc.length < 100000 ∧ WLc c g tt te own Q ds (acc ++ [o]) ⟨wipeS e4.sl own, e4.g⟩ else WLc c g tt te own Q ds acc ⟨wipeS e3.sl own, e3.g⟩
theorem we_lc {wi : TI} {g : TG} {tt : TT} {te : TE} {own : List Nat} {Q : O → Env → Prop} (dj : ∀ i ∈ own, i ∉ c.fx) (h : WI c wi e fun ds e1 => WLc c g tt te own Q ds [] ⟨wipeS e1.sl own, e1.g⟩) : WE c (tLc wi g tt te own) e Q := fun S H ts vs σ r Q' k =>
  h S H ts vs σ r _ fun J ds xt xv e1 S1 H1 r1 l G q => by
    intro Da hD
    have r2 := R.list (os := []) (us := []) r1 rfl hD
    have r3 := r2.wipe own dj
    have ww : ∀ sl : List (Option O), ∀ vs : List Nat, (wipeS sl vs).length = sl.length := fun sl vs => by
      induction vs with
      | nil => rfl
      | cons v vs ih => simp only [wipeS, List.length_set, ih]
    refine ⟨fun i m H' => m = ds.length - i ∧ i ≤ ds.length ∧ ∃ S' sl' g' acc, R c S' H' (.lst acc :: (xt.map O.sh ++ ts)) (.ref Da :: (xv ++ vs)) ⟨wipeS sl' own, g'⟩ (wipe σ own) ∧ WLc c g tt te own Q (ds.drop i) acc ⟨wipeS sl' own, g'⟩,
      ⟨ds.length, by simp, Nat.zero_le _, S1, e1.sl, e1.g, [], r3, q⟩, ?_⟩
    rintro i m H' ⟨rfl, hi, S', sl', g', acc, r', w⟩
    have kx : Reps c.K S' xt xv := r'.pop.sh_all l
    by_cases hlt : i < ds.length
    · have hd : ds[i]? = some ds[i] := List.getElem?_eq_getElem hlt
      obtain ⟨go, yl⟩ := (G S' H' r'.sub kx).2 i _ hd
      refine .inr ⟨go, fun H2 => ∃ S2 sl2 g2 acc2, R c S2 H2 (.lst acc2 :: (xt.map O.sh ++ ts)) (.ref Da :: (xv ++ vs)) ⟨wipeS sl2 own, g2⟩ (wipe σ own) ∧ WLc c g tt te own Q (ds.drop (i + 1)) acc2 ⟨wipeS sl2 own, g2⟩,
        fun H2 ⟨S2, sl2, g2, acc2, r2, w2⟩ => ⟨_, by omega, rfl, hlt, S2, sl2, g2, acc2, r2, w2⟩, fun x H2 y => ?_⟩
      obtain ⟨S2, s2, r2⟩ := item G r' kx hd y
      rw [List.drop_eq_getElem_cons hlt] at w
      simp only [WLc] at w
      refine w S2 H2 _ _ x _ r2 _ fun e3 S3 H3 σ3 r3 ew z => ?_
      have ww2 : wipe (wipe σ own) own = wipe σ own := by
        have : ∀ (vs : List Nat), (∀ i ∈ vs, i ∈ own) → wipe (wipe σ own) vs = wipe σ own := by
          intro vs
          induction vs with
          | nil => intro _; rfl
          | cons v vs ih =>
            intro hm
            show (wipe (wipe σ own) vs).set v none = wipe σ own
            rw [ih fun i hi => hm i (List.mem_cons_of_mem _ hi)]
            have hv : v ∈ own := hm v List.mem_cons_self
            have : ∀ (own : List Nat), v ∈ own → (wipe σ own).set v none = wipe σ own := by
              intro own
              induction own with
              | nil => intro h; simp at h
              | cons u own ih2 =>
                intro h
                show ((wipe σ own).set u none).set v none = (wipe σ own).set u none
                by_cases eu : u = v
                · subst eu
                  rw [List.set_set]
                · rw [List.set_comm _ _ eu, ih2 (by simpa [Ne.symm eu] using h)]
            exact this own hv
        exact this own fun _ h => h
      refine ⟨ew.trans ww2, z S3 H3 _ _ σ3 r3 _ fun b e4 S4 H4 r4 z4 => ?_⟩
      cases b with
      | false =>
        rw [if_neg Bool.false_ne_true] at z4
        rw [if_neg Bool.false_ne_true]
        have r5 := r4.wipe own dj
        rw [ew, ww2] at r5
        exact ⟨S4, e4.sl, e4.g, acc, r5, z4⟩
      | true =>
        rw [if_pos rfl] at z4
        rw [if_pos rfl]
        refine z4 S4 H4 _ _ σ3 r4 _ fun o v e5 S5 H5 r5 ⟨la, z5⟩ => ?_
        have r6 := r5.swap
        obtain ⟨p, xs, ep, hp, lp⟩ := r6.ref_top
        obtain rfl := V.ref.inj ep
        have r7 := (r6.app hp).wipe own dj
        rw [ew, ww2] at r7
        exact ⟨xs, hp, szl (by rw [lp]; exact la), S5, e5.sl, e5.g, _, r7, z5⟩
    · have e0 : i = ds.length := by omega
      subst e0
      rw [List.drop_length] at w
      simp only [WLc] at w
      have r5 := r'.unwipe dj
      have : ∀ (xt : List TX.D) (xv : List V), xv.length = xt.length → R c S' H' (.lst acc :: (xt.map O.sh ++ ts)) (.ref Da :: (xv ++ vs)) ⟨wipeS sl' own, g'⟩ σ → R c S' H' (.lst acc :: ts) (.ref Da :: vs) ⟨wipeS sl' own, g'⟩ σ := by
        intro xt
        induction xt with
        | nil =>
          intro xv l r
          have e : xv = [] := List.length_eq_zero_iff.mp l
          subst e
          exact r
        | cons d xt ih =>
          intro xv l r
          match xv, l with
          | x' :: xv, l => exact ih xv (by simpa using l) (R.swap r).pop
      exact .inl ⟨(G S' H' r'.sub kx).1 _ (Nat.le_refl _), k _ _ _ _ _ (this xt xv l r5) w⟩
end
end TX
end

section
namespace TX
open PySem L2

/-! ### == -/
mutual
def toPy : D → PyData
  | .non => .none
  | .bl b => .bool b
  | .int i => .int i
  | .str s => .str s
  | .lst ds => .list (toPys ds)
  | .tup ds => .tuple (toPys ds)
  | .raw ds => .tuple (toPys ds)
  | .scr _ => .none
  | .set _ => .none
  | .dct _ _ => .none
def toPys : List D → List PyData
  | [] => []
  | d :: ds => toPy d :: toPys ds
end
def D.eqv (d e : D) : Bool := PyData.eqv (toPy d) (toPy e)
mutual
def noset : D → Bool
  | .lst ds => nosets ds
  | .tup ds => nosets ds
  | .raw ds => nosets ds
  | .scr _ => false
  | .set _ => false
  | .dct _ _ => false
  | _ => true
def nosets : List D → Bool
  | [] => true
  | d :: ds => noset d && nosets ds
end
def okD (d : D) : Bool := noset d && SeqAt.shaped (toPy d)
section
variable {K : PySem.W.Frag} {S H : Hp}
mutual
theorem Rep.dp (s : Same S H) : ∀ (d : D) (v : V), noset d = true → Rep K S d v → Dp K H v (toPy d)
  | .non, v, _, h => by
    simp only [Rep] at h
    subst h
    simp only [toPy]
    exact .non
  | .bl b, v, _, h => by
    simp only [Rep] at h
    subst h
    simp only [toPy]
    exact .bl b
  | .int b, v, _, h => by
    simp only [Rep] at h
    subst h
    simp only [toPy]
    exact .int b
  | .str b, v, _, h => by
    simp only [Rep] at h
    subst h
    simp only [toPy]
    exact .str b
  | .lst ds, v, n, h => by
    simp only [Rep] at h
    obtain ⟨p, vs, rfl, h1, h2⟩ := h
    simp only [toPy]
    exact .lst (.of (s _ _ h1)) (Reps.dp s ds vs (by simpa [noset] using n) h2)
  | .tup ds, v, n, h => by
    simp only [Rep] at h
    obtain ⟨p, vs, o, rfl, h1, ho, h2⟩ := h
    simp only [toPy]
    exact .tup (tupQ s h1) (Reps.dp s ds vs (by simpa [noset] using n) h2)
  | .raw ds, v, n, h => by
    simp only [Rep] at h
    obtain ⟨p, vs, rfl, h1, h2⟩ := h
    simp only [toPy]
    exact .tup (.of (s _ _ h1)) (Reps.dp s ds vs (by simpa [noset] using n) h2)
  | .scr _, v, n, h => by simp [noset] at n
  | .set _, v, n, h => by simp [noset] at n
theorem Reps.dp (s : Same S H) : ∀ (ds : List D) (vs : List V), nosets ds = true → Reps K S ds vs → DpAll K H vs (toPys ds)
  | [], vs, _, h => by
    simp only [Reps] at h
    subst h
    simp only [toPys]
    exact .nil
  | d :: ds, vs, n, h => by
    simp only [Reps] at h
    simp only [nosets, Bool.and_eq_true] at n
    obtain ⟨v, r, rfl, h1, h2⟩ := h
    simp only [toPys]
    exact .cons (Rep.dp s d v n.1 h1) (Reps.dp s ds r n.2 h2)
end
end
section
variable {c : Ct} {S H : Hp} {ts : List O} {vs : List V} {e : Env} {σ : St} {o o1 o2 : O} {u v x y : V} {Q : O → Env → Prop}
theorem R.freeze2 (r : R c S H (o2 :: o1 :: ts) (y :: x :: vs) e σ) (n1 : nobx o1 = true) (n2 : nobx o2 = true) : ∃ S', Same S S' ∧ Rep c.K S' (toD o1) x ∧ Rep c.K S' (toD o2) y ∧ R c S' H ts vs e σ := by
  obtain ⟨S1, s1, r1⟩ := r.freeze n2
  have t1 := r1.top
  obtain ⟨S2, s2, r2⟩ := r1.pop.freeze n1
  exact ⟨S2, s1.trans s2, r2.top, Rep.mono s2 _ _ t1, r2.pop⟩
theorem R.freeze1 (r : R c S H (o1 :: ts) (x :: vs) e σ) (n1 : nobx o1 = true) : ∃ S', Same S S' ∧ Rep c.K S' (toD o1) x ∧ R c S' H ts vs e σ := by
  obtain ⟨S1, s1, r1⟩ := r.freeze n1
  exact ⟨S1, s1, r1.top, r1.pop⟩
theorem okD_ns {d : D} (h : okD d = true) : noset d = true := (Bool.and_eq_true_iff.mp h).1
theorem okD_sh {d : D} (h : okD d = true) : SeqAt.shaped (toPy d) = true := (Bool.and_eq_true_iff.mp h).2
theorem wr_eqD (n1 : nobx o1 = true) (n2 : nobx o2 = true) (k1 : okD (toD o1) = true) (k2 : okD (toD o2) = true) (q : Q (.sh (.bl (D.eqv (toD o1) (toD o2)))) e) : WR c (rEqD c.K) o1 o2 e Q := fun S H ts vs x y σ r Q' k => by
  obtain ⟨S', s, t1, t2, r1⟩ := r.freeze2 n1 n2
  exact ⟨_, _, Rep.dp r1.sub _ _ (okD_ns k1) t1, Rep.dp r1.sub _ _ (okD_ns k2) t2, (okD_sh k1), (okD_sh k2), k _ _ _ _ _ (r1.push (d := .bl _) rfl) q⟩
theorem wr_neD (n1 : nobx o1 = true) (n2 : nobx o2 = true) (k1 : okD (toD o1) = true) (k2 : okD (toD o2) = true) (q : Q (.sh (.bl (!D.eqv (toD o1) (toD o2)))) e) : WR c (rNeD c.K) o1 o2 e Q := fun S H ts vs x y σ r Q' k => by
  obtain ⟨S', s, t1, t2, r1⟩ := r.freeze2 n1 n2
  exact ⟨_, _, Rep.dp r1.sub _ _ (okD_ns k1) t1, Rep.dp r1.sub _ _ (okD_ns k2) t2, (okD_sh k1), (okD_sh k2), k _ _ _ _ _ (r1.push (d := .bl _) rfl) q⟩
/-- is None -/
def rIsNX : R2 := fun x y H Q => y = .non ∧ Q (.bl (decide (x = .non))) H
def rNotNX : R2 := fun x y H Q => y = .non ∧ Q (.bl (!decide (x = .non))) H
theorem op_isNX {X : Cx} : OpR X (compareOp .Is) rIsNX := op_isN
theorem op_notNX {X : Cx} : OpR X (compareOp .IsNot) rNotNX := op_notN
def isNon : D → Bool
  | .non => true
  | _ => false
theorem rep_non {K : PySem.W.Frag} {S : Hp} : ∀ {d : D} {v : V}, Rep K S d v → decide (v = V.non) = isNon d
  | .non, v, h => by
    simp only [Rep] at h
    subst h
    rfl
  | .bl b, v, h => by
    simp only [Rep] at h
    subst h
    rfl
  | .int b, v, h => by
    simp only [Rep] at h
    subst h
    rfl
  | .str b, v, h => by
    simp only [Rep] at h
    subst h
    rfl
  | .lst ds, v, h => by
    simp only [Rep] at h
    obtain ⟨p, vs, rfl, h1, h2⟩ := h
    rfl
  | .tup ds, v, h => by
    simp only [Rep] at h
    obtain ⟨p, vs, o, rfl, h1, ho, h2⟩ := h
    rfl
  | .raw ds, v, h => by
    simp only [Rep] at h
    obtain ⟨p, vs, rfl, h1, h2⟩ := h
    rfl
  | .scr _, v, h => by
    simp only [Rep] at h
    obtain ⟨p, rfl, h1⟩ := h
    rfl
  | .set ns, v, h => by
    simp only [Rep] at h
    obtain ⟨p, n, rfl, h1⟩ := h
    rfl
  | .dct f n, v, h => by
    simp only [Rep] at h
    obtain ⟨p, vs, rfl, h1⟩ := h
    rfl
theorem wr_isN (n1 : nobx o1 = true) (q : Q (.sh (.bl (isNon (toD o1)))) e) : WR c rIsNX o1 (.sh .non) e Q := fun S H ts vs x y σ r Q' k => by
  obtain ⟨S', s, t1, t2, r1⟩ := r.freeze2 n1 rfl
  exact ⟨t2, k _ _ _ _ _ (r1.push (d := .bl _) (by rw [rep_non t1] <;> rfl)) q⟩
theorem wr_notN (n1 : nobx o1 = true) (q : Q (.sh (.bl (!isNon (toD o1)))) e) : WR c rNotNX o1 (.sh .non) e Q := fun S H ts vs x y σ r Q' k => by
  obtain ⟨S', s, t1, t2, r1⟩ := r.freeze2 n1 rfl
  exact ⟨t2, k _ _ _ _ _ (r1.push (d := .bl _) (by rw [rep_non t1] <;> rfl)) q⟩
theorem wr_isBl {a b : Bool} (q : Q (.sh (.bl (decide (a = b)))) e) : WR c rIsB (.sh (.bl a)) (.sh (.bl b)) e Q := fun S H ts vs x y σ r Q' k => ⟨a, b, r.top2, r.top, k _ _ _ _ _ (r.pop.pop.push (d := .bl _) rfl) q⟩
theorem wr_notBl {a b : Bool} (q : Q (.sh (.bl (!decide (a = b)))) e) : WR c rNotB (.sh (.bl a)) (.sh (.bl b)) e Q := fun S H ts vs x y σ r Q' k => ⟨a, b, r.top2, r.top, k _ _ _ _ _ (r.pop.pop.push (d := .bl _) rfl) q⟩

theorem reps_ns {K : PySem.W.Frag} {S : Hp} : ∀ ns : List Int, Reps K S (ns.map D.int) (ns.map V.int)
  | [] => by simp [Reps]
  | n :: ns => by
    simp only [List.map_cons, Reps, Rep]
    exact ⟨_, _, rfl, rfl, reps_ns ns⟩
/-! ### subscripts -/
def items : D → Option (List D)
  | .lst ds => some ds
  | .scr ns => some (ns.map D.int)
  | .tup ds => some ds
  | _ => none
theorem atI_map {α β : Type} {xs : List α} {ys : List β} (l : xs.length = ys.length) {i : Int} {v : α} (h : atI xs i = some v) : ∃ k : Nat, xs[k]? = some v ∧ ∀ w, ys[k]? = some w → atI ys i = some w := by
  unfold atI at h
  cases q : ixN xs.length i with
  | none =>
    rw [q] at h
    cases h
  | some k =>
    rw [q] at h
    refine ⟨k, h, fun w hw => ?_⟩
    unfold atI
    rw [← l, q]
    exact hw
theorem wr_ix {ds : List D} {d : D} {i : Int} (n1 : nobx o1 = true) (h : items (toD o1) = some ds) (hd : atI ds i = some d) (q : Q (.sh d) e) : WR c (rIx c.K) o1 (.sh (.int i)) e Q := fun S H ts vs x y σ r Q' k => by
  obtain ⟨S', s, t1, t2, r1⟩ := r.freeze2 n1 rfl
  simp only [toD, Rep] at t2
  subst t2
  cases hh : toD o1 with
  | lst l =>
    rw [hh] at t1 h
    simp only [Rep] at t1
    obtain ⟨p, xs, rfl, h1, h2⟩ := t1
    obtain rfl := Option.some.inj h
    obtain ⟨j, k1, k2⟩ := atI_map h2.len.symm hd
    obtain ⟨z, k3, k4⟩ := h2.get k1
    exact .inl ⟨p, xs, i, z, rfl, rfl, .of (r1.sub _ _ h1), k2 z k3, k _ _ _ _ _ (r1.push k4) q⟩
  | tup l =>
    rw [hh] at t1 h
    simp only [Rep] at t1
    obtain ⟨p, xs, ob, rfl, h1, ho, h2⟩ := t1
    obtain rfl := Option.some.inj h
    obtain ⟨j, k1, k2⟩ := atI_map h2.len.symm hd
    obtain ⟨z, k3, k4⟩ := h2.get k1
    exact .inr (.inl ⟨p, xs, i, z, rfl, rfl, tupQ r1.sub h1, k2 z k3, k _ _ _ _ _ (r1.push k4) q⟩)
  | scr l =>
    rw [hh] at t1 h
    simp only [Rep] at t1
    obtain ⟨p, rfl, h1⟩ := t1
    obtain rfl := Option.some.inj h
    have h2 := reps_ns (K := c.K) (S := S') l
    obtain ⟨j, k1, k2⟩ := atI_map h2.len.symm hd
    obtain ⟨z, k3, k4⟩ := h2.get k1
    exact .inl ⟨p, _, i, z, rfl, rfl, Same.seq r1.sub h1, k2 z k3, k _ _ _ _ _ (r1.push k4) q⟩
  | raw l => rw [hh] at h; cases h
  | non => rw [hh] at h; cases h
  | bl _ => rw [hh] at h; cases h
  | int _ => rw [hh] at h; cases h
  | str _ => rw [hh] at h; cases h
  | set _ => rw [hh] at h; cases h
  | dct _ _ => rw [hh] at h; cases h
/-! ### len -/
def rLenX (K : PySem.W.Frag) : List V → Hp → VK → Prop := fun xs H Q => (∃ p ys, xs = [.ref p] ∧ (SqL K H p ys ∨ SqT K H p ys) ∧ Q (.int ys.length) H) ∨ ∃ z, xs = [.str z] ∧ z.length ≤ sizeLine ∧ Q (.int z.length) H
theorem cr_len {X : Cx} : CallR X (.builtin "len") (rLenX X.K) := call_len_seq.or call_len_str
theorem vals_one {us : List V} (l : us.length = 1) : ∃ u, us = [u] := by
  match us, l with
  | [u], _ => exact ⟨u, rfl⟩
theorem vals_two {us : List V} (l : us.length = 2) : ∃ u w, us = [u, w] := by
  match us, l with
  | [u, w], _ => exact ⟨u, w, rfl⟩
theorem we_cb {r : List V → Hp → VK → Prop} {ta : TA} (h : WA c ta e fun os e1 => WC c r os e1 Q) : WE c (tCB r ta) e Q := fun S H ts vs σ rr Q' k =>
  h S H ts vs σ rr _ fun os us e1 S1 H1 r1 l q => q S1 H1 ts vs us σ r1 l Q' k
theorem wc_len {ds : List D} (n1 : nobx o1 = true) (h : items (toD o1) = some ds) (q : Q (.sh (.int (ds.length : Nat))) e) : WC c (rLenX c.K) [o1] e Q := fun S H ts vs us σ r l Q' k => by
  obtain ⟨x, rfl⟩ := vals_one l
  obtain ⟨S', s, t1, r1⟩ := R.freeze1 r n1
  cases hh : toD o1 with
  | lst l =>
    rw [hh] at t1 h
    simp only [Rep] at t1
    obtain ⟨p, xs, rfl, h1, h2⟩ := t1
    obtain rfl := Option.some.inj h
    exact .inl ⟨p, xs, rfl, .inl (.of (r1.sub _ _ h1)), k _ _ _ _ _ (r1.push (d := .int _) (by rw [h2.len] <;> rfl)) q⟩
  | scr l =>
    rw [hh] at t1 h
    simp only [Rep] at t1
    obtain ⟨p, rfl, h1⟩ := t1
    obtain rfl := Option.some.inj h
    exact .inl ⟨p, _, rfl, .inl (Same.seq r1.sub h1), k _ _ _ _ _ (r1.push (d := .int _) (by rw [List.length_map, List.length_map] <;> rfl)) q⟩
  | raw l => rw [hh] at h; cases h
  | tup l =>
    rw [hh] at t1 h
    simp only [Rep] at t1
    obtain ⟨p, xs, ob, rfl, h1, ho, h2⟩ := t1
    obtain rfl := Option.some.inj h
    exact .inl ⟨p, xs, rfl, .inr (tupQ r1.sub h1), k _ _ _ _ _ (r1.push (d := .int _) (by rw [h2.len] <;> rfl)) q⟩
  | non => rw [hh] at h; cases h
  | bl _ => rw [hh] at h; cases h
  | int _ => rw [hh] at h; cases h
  | str _ => rw [hh] at h; cases h
  | set _ => rw [hh] at h; cases h
  | dct _ _ => rw [hh] at h; cases h
/-! ### int, abs, str of ints; two-place min and max -/
def rInt1 : List V → Hp → VK → Prop := fun xs H Q => (∃ i, xs = [.int i] ∧ Q (.int i) H) ∨ ∃ k, xs = [.bl k] ∧ Q (.int (if k then 1 else 0)) H
theorem cr_int {X : Cx} : CallR X (.type "int") rInt1 := call_int1
def rAbs1 : List V → Hp → VK → Prop := fun xs H Q => ∃ i, xs = [.int i] ∧ Q (.int (if i < 0 then -i else i)) H
theorem cr_abs {X : Cx} : CallR X (.builtin "abs") rAbs1 := call_abs
def rStrI : List V → Hp → VK → Prop := fun xs H Q => ∃ i, xs = [.int i] ∧ i.natAbs.log2 < 1920 ∧ Q (.str (toString i)) H
theorem cr_strI {X : Cx} : CallR X (.type "str") rStrI := call_str_int
def rMn2 : List V → Hp → VK → Prop := fun xs H Q => ∃ i j, xs = [.int i, .int j] ∧ Q (.int (if j < i then j else i)) H
theorem cr_min2 {X : Cx} (hc : X.calm = true) : CallR X (.builtin "min") rMn2 := call_min2 hc
def rMx2 : List V → Hp → VK → Prop := fun xs H Q => ∃ i j, xs = [.int i, .int j] ∧ Q (.int (if j > i then j else i)) H
theorem cr_max2 {X : Cx} (hc : X.calm = true) : CallR X (.builtin "max") rMx2 := call_max2 hc
theorem wc_intI {i : Int} (q : Q (.sh (.int i)) e) : WC c rInt1 [.sh (.int i)] e Q := fun S H ts vs us σ r l Q' k => by
  obtain ⟨x, rfl⟩ := vals_one l
  have t : x = V.int i := R.top r
  subst t
  exact .inl ⟨i, rfl, k _ _ _ _ _ r q⟩
theorem wc_intB {b : Bool} (q : Q (.sh (.int (if b then 1 else 0))) e) : WC c rInt1 [.sh (.bl b)] e Q := fun S H ts vs us σ r l Q' k => by
  obtain ⟨x, rfl⟩ := vals_one l
  have t : x = V.bl b := R.top r
  subst t
  exact .inr ⟨b, rfl, k _ _ _ _ _ (R.push (d := .int _) (R.pop r) rfl) q⟩
theorem wc_abs {i : Int} (q : Q (.sh (.int (if i < 0 then -i else i))) e) : WC c rAbs1 [.sh (.int i)] e Q := fun S H ts vs us σ r l Q' k => by
  obtain ⟨x, rfl⟩ := vals_one l
  have t : x = V.int i := R.top r
  subst t
  exact ⟨i, rfl, k _ _ _ _ _ (R.push (d := .int _) (R.pop r) rfl) q⟩
theorem wc_strI {i : Int} (h : i.natAbs.log2 < 1920) (q : Q (.sh (.str (toString i))) e) : WC c rStrI [.sh (.int i)] e Q := fun S H ts vs us σ r l Q' k => by
  obtain ⟨x, rfl⟩ := vals_one l
  have t : x = V.int i := R.top r
  subst t
  exact ⟨i, rfl, h, k _ _ _ _ _ (R.push (d := .str _) (R.pop r) rfl) q⟩
theorem wc_min2 {i j : Int} (q : Q (.sh (.int (if j < i then j else i))) e) : WC c rMn2 [.sh (.int i), .sh (.int j)] e Q := fun S H ts vs us σ r l Q' k => by
  obtain ⟨x, y, rfl⟩ := vals_two l
  have t : x = V.int i := R.top r
  have t2 : y = V.int j := R.top (R.pop r)
  subst t t2
  exact ⟨i, j, rfl, k _ _ _ _ _ (R.push (d := .int _) (R.pop (R.pop r)) rfl) q⟩
theorem wc_max2 {i j : Int} (q : Q (.sh (.int (if j > i then j else i))) e) : WC c rMx2 [.sh (.int i), .sh (.int j)] e Q := fun S H ts vs us σ r l Q' k => by
  obtain ⟨x, y, rfl⟩ := vals_two l
  have t : x = V.int i := R.top r
  have t2 : y = V.int j := R.top (R.pop r)
  subst t t2
  exact ⟨i, j, rfl, k _ _ _ _ _ (R.push (d := .int _) (R.pop (R.pop r)) rfl) q⟩
/-! ### list(..), tuple(..) -/
def rListOf (K : PySem.W.Frag) : List V → Hp → VK → Prop := fun xs H Q => ∃ p ys, xs = [.ref p] ∧ (SqL K H p ys ∨ SqT K H p ys) ∧ ∀ l, H l = none → Q (.ref l) (upd H l (.lst ys))
theorem cr_list {X : Cx} : CallR X (.type "list") (rListOf X.K) := call_list_of
def rTupOf (K : PySem.W.Frag) : List V → Hp → VK → Prop := fun xs H Q => ∃ p ys, xs = [.ref p] ∧ ((SqL K H p ys ∧ ∀ l o, H l = none → o.dict = none → Q (.ref l) (upd H l (.frz o (.tup ys)))) ∨ (SqT K H p ys ∧ Q (.ref p) H))
theorem cr_tuple {X : Cx} : CallR X (.type "tuple") (rTupOf X.K) := by
  intro pn s0 sg Hh xs us Qq Ii rr hw
  obtain ⟨p, ys, rfl, hw⟩ := hw
  rw [Vals.ref1 rr]
  rcases hw with ⟨hs, q⟩ | ⟨hs, q⟩
  · obtain ⟨its, rv, pl, hz⟩ := Ii.list hs
    refine PySem.call_tuple_list pl.isList (fun h2 hk => ?_) (by rw [List.size_toArray, ← rv.length]; exact hz)
    have I1 : Inv X pn sg Hh { s0 with heap := h2 } := Ii.kept (t' := s0.toks) hk
    refine ⟨.ref h2.objs.size, _, I1.laid (t' := s0.toks) (fun b ob z => Heap.get?_push_of_some _ z) (Nat.le_refl _) ?_, rfl, q _ { cls := .type "tuple", data := .seq its.toArray } (I1.hok.fresh (Nat.le_refl _)) rfl⟩
    exact ⟨Heap.get?_push_size _ rfl, hz, its, rv, PyProof.Rows.IsTup.new _ _⟩
  · obtain ⟨its, rv, pl, hz⟩ := Ii.tuple hs
    exact PyProof.Rows.call_tuple_tup pl ⟨.ref p, Hh, Ii, rfl, q⟩
theorem reps_all {K : PySem.W.Frag} {b : Addr → Prop} {S H : Hp} : ∀ {ds : List D} {vs : List V}, Reps K S ds vs → RepOs K b S H (ds.map O.sh) vs fun _ => 0
  | [], vs, h => by
    simp only [Reps] at h
    subst h
    simp [RepOs]
  | d :: ds, vs, h => by
    simp only [Reps] at h
    obtain ⟨v, r, rfl, h1, h2⟩ := h
    simp only [List.map_cons, RepOs, RepO]
    exact ⟨v, r, fun _ => 0, fun _ => 0, rfl, ⟨h1, fun _ => rfl⟩, reps_all h2, fun _ => rfl⟩
theorem R.pushes {ds : List D} {us : List V} (r : R c S H ts vs e σ) (h : Reps c.K S ds us) : R c S H (ds.map O.sh ++ ts) (us ++ vs) e σ := by
  obtain ⟨f1, f2, h1, h2, h3⟩ := r.rep
  exact ⟨⟨fun a => 0 + f1 a, f2, RepOs.app (reps_all h) h1, h2, fun a => by (try dsimp only); have := h3 a; exact ⟨by omega, fun z => this.2 (by omega)⟩⟩, r.sub, r.ext, r.new, r.fr, r.dom, r.fix⟩
theorem seq_of {K : PySem.W.Frag} {S H : Hp} {d : D} {ds : List D} {v : V} (s : Same S H) (h : Rep K S d v) (i : items d = some ds) : ∃ p ys, v = .ref p ∧ (SqL K H p ys ∨ SqT K H p ys) ∧ Reps K S ds ys := by
  cases d with
  | lst l =>
    obtain rfl := Option.some.inj i
    simp only [Rep] at h
    obtain ⟨p, xs, rfl, h1, h2⟩ := h
    exact ⟨p, xs, rfl, .inl (.of (s _ _ h1)), h2⟩
  | scr l =>
    obtain rfl := Option.some.inj i
    simp only [Rep] at h
    obtain ⟨p, rfl, h1⟩ := h
    exact ⟨p, _, rfl, .inl (Same.seq s h1), reps_ns l⟩
  | raw l => cases i
  | tup l =>
    obtain rfl := Option.some.inj i
    simp only [Rep] at h
    obtain ⟨p, xs, ob, rfl, h1, ho, h2⟩ := h
    exact ⟨p, xs, rfl, .inr (tupQ s h1), h2⟩
  | non => cases i
  | bl _ => cases i
  | int _ => cases i
  | str _ => cases i
  | set _ => cases i
  | dct _ _ => cases i
theorem wc_list {ds : List D} (n1 : nobx o1 = true) (h : items (toD o1) = some ds) (q : Q (.lst (ds.map O.sh)) e) : WC c (rListOf c.K) [o1] e Q := fun S H ts vs us σ r l Q' k => by
  obtain ⟨x, rfl⟩ := vals_one l
  obtain ⟨S', s, t1, r1⟩ := R.freeze1 r n1
  obtain ⟨p, ys, rfl, h1, h2⟩ := seq_of r1.sub t1 h
  exact ⟨p, ys, rfl, h1, fun l hl => k _ _ _ _ _ ((r1.pushes h2).list (by rw [h2.len, List.length_map]) hl) q⟩
theorem wc_tuple {ds : List D} (n1 : nobx o1 = true) (h : items (toD o1) = some ds) (q : Q (.sh (.tup ds)) e) : WC c (rTupOf c.K) [o1] e Q := fun S H ts vs us σ r l Q' k => by
  obtain ⟨x, rfl⟩ := vals_one l
  obtain ⟨S', s, t1, r1⟩ := R.freeze1 r n1
  cases hh : toD o1 with
  | lst l =>
    rw [hh] at t1 h
    obtain rfl := Option.some.inj h
    simp only [Rep] at t1
    obtain ⟨p, ys, rfl, h1, h2⟩ := t1
    refine ⟨p, ys, rfl, .inl ⟨.of (r1.sub _ _ h1), fun l ob hl ho => ?_⟩⟩
    obtain ⟨S2, r2⟩ := (r1.pushes h2).tuple h2.len hl ho
    exact k _ _ _ _ _ r2 q
  | tup l =>
    rw [hh] at t1 h
    obtain rfl := Option.some.inj h
    have t2 := t1
    simp only [Rep] at t2
    obtain ⟨p, ys, ob, rfl, h1, ho, h2⟩ := t2
    exact ⟨p, ys, rfl, .inr ⟨tupQ r1.sub h1, k _ _ _ _ _ (r1.push t1) q⟩⟩
  | scr zs =>
    rw [hh] at t1 h
    obtain rfl := Option.some.inj h
    simp only [Rep] at t1
    obtain ⟨p, rfl, h1⟩ := t1
    have h2 := reps_ns (K := c.K) (S := S') zs
    refine ⟨p, _, rfl, .inl ⟨Same.seq r1.sub h1, fun l ob hl ho => ?_⟩⟩
    obtain ⟨S2, r2⟩ := (r1.pushes h2).tuple h2.len hl ho
    exact k _ _ _ _ _ r2 q
  | raw _ => rw [hh] at h; cases h
  | non => rw [hh] at h; cases h
  | bl _ => rw [hh] at h; cases h
  | int _ => rw [hh] at h; cases h
  | str _ => rw [hh] at h; cases h
  | set _ => rw [hh] at h; cases h
  | dct _ _ => rw [hh] at h; cases h
end
end TX
end

section
namespace TX
open PySem L2
section
variable {c : Ct} {S H : Hp} {ts : List O} {vs : List V} {e : Env} {σ : St} {o o1 o2 : O} {u v x y : V} {Q : O → Env → Prop}
/-! ### + and * -/
def rCatF (K : PySem.W.Frag) : R2 := fun x y H Q => ∃ a b xs ys, x = .ref a ∧ y = .ref b ∧ SqT K H a xs ∧ SqT K H b ys ∧ xs.length + ys.length ≤ sizeLine ∧
  (xs = [] → Q (.ref b) H) ∧ (xs ≠ [] → ys = [] → Q (.ref a) H) ∧ (xs ≠ [] → ys ≠ [] → ∀ p o, H p = none → o.dict = none → Q (.ref p) (upd H p (.frz o (.tup (xs ++ ys)))))
theorem op_catF {X : Cx} : OpR X (binaryOp .Add) (rCatF X.K) := by
  intro pn s0 sg Hh x y v u Qq Ii rx ry hw
  obtain ⟨a, b, xs, ys, rfl, rfl, ha, hb, hz, q0, q1, q2⟩ := hw
  by_cases hx : xs = []
  · exact op_catA pn s0 sg Hh _ _ v u Qq Ii rx ry ⟨a, b, xs, ys, rfl, rfl, ha, hb, hz, q0, q1, fun z => absurd hx z⟩
  by_cases hy : ys = []
  · exact op_catA pn s0 sg Hh _ _ v u Qq Ii rx ry ⟨a, b, xs, ys, rfl, rfl, ha, hb, hz, q0, q1, fun _ z => absurd hy z⟩
  cases rx
  cases ry
  obtain ⟨its, r1, p1, z1⟩ := Ii.tuple ha
  obtain ⟨its2, r2, p2, z2⟩ := Ii.tuple hb
  have e1 := r1.length
  have e2 := r2.length
  refine HT.cat_tup p1 p2 (fun z => hx (r1.nil_iff.mp z)) (fun z => absurd (r2.nil_iff.mp z) hy) (fun z => ?_) (by rw [← r1.length, ← r2.length]; exact hz)
  have I1 := Ii.laid (t' := s0.toks) (o := .frz { cls := .type "tuple", data := .seq (its ++ its2).toArray } (.tup (xs ++ ys))) (fun b ob q => Heap.get?_push_of_some _ q) (Nat.le_refl _) ⟨Heap.get?_push_size _ rfl, ⟨by rw [List.length_append]; exact hz, _, r1.append r2, PyProof.Rows.IsTup.new _ _⟩⟩
  exact ⟨.ref s0.heap.objs.size, _, I1, rfl, q2 hx hy _ _ (Ii.hok.fresh (Nat.le_refl _)) rfl⟩
def rAddX (K : PySem.W.Frag) : R2 := fun x y H Q => (∃ i j, x = .int i ∧ y = .int j ∧ Q (.int (i + j)) H) ∨ rCat x y H Q ∨ rCatF K x y H Q ∨ ∃ i j, x = .str i ∧ y = .str j ∧ i.length + j.length ≤ sizeLine ∧ Q (.str (i ++ j)) H
theorem op_addX {X : Cx} : OpR X (binaryOp .Add) (rAddX X.K) := op_add.or (op_cat.or (op_catF.or op_add_str))
theorem Reps.app {K : PySem.W.Frag} {S : Hp} : ∀ {ds es : List D} {us vs : List V}, Reps K S ds us → Reps K S es vs → Reps K S (ds ++ es) (us ++ vs)
  | [], es, us, vs, h, k => by
    simp only [Reps] at h
    subst h
    exact k
  | d :: ds, es, us, vs, h, k => by
    simp only [Reps] at h
    obtain ⟨v, r, rfl, h1, h2⟩ := h
    simp only [List.cons_append, Reps]
    exact ⟨v, _, rfl, h1, Reps.app h2 k⟩
theorem wr_addI {i j : Int} (q : Q (.sh (.int (i + j))) e) : WR c (rAddX c.K) (.sh (.int i)) (.sh (.int j)) e Q := fun S H ts vs x y σ r Q' k => by
  have t1 : x = V.int i := r.top2
  have t2 : y = V.int j := r.top
  exact .inl ⟨i, j, t1, t2, k _ _ _ _ _ (r.pop.pop.push (d := .int _) rfl) q⟩
theorem wr_addL {d1 d2 : List D} (n1 : nobx o1 = true) (n2 : nobx o2 = true) (h1 : toD o1 = .lst d1) (h2 : toD o2 = .lst d2) (l : d1.length + d2.length ≤ 100000) (q : Q (.lst ((d1 ++ d2).map O.sh)) e) : WR c (rAddX c.K) o1 o2 e Q := fun S H ts vs x y σ r Q' k => by
  obtain ⟨S', s, t1, t2, r1⟩ := r.freeze2 n1 n2
  rw [h1] at t1
  rw [h2] at t2
  simp only [Rep] at t1 t2
  obtain ⟨p, xs, rfl, a1, a2⟩ := t1
  obtain ⟨p', ys, rfl, b1, b2⟩ := t2
  refine .inr (.inl ⟨p, p', xs, ys, rfl, rfl, r1.sub _ _ a1, r1.sub _ _ b1, sz (by rw [a2.len, b2.len]; exact l), fun z hz => k _ _ _ _ _ ((r1.pushes (Reps.app a2 b2)).list ?_ hz) q⟩)
  rw [List.length_append, a2.len, b2.len, List.length_map, List.length_append]
theorem wr_addT {d1 d2 : List D} (n1 : nobx o1 = true) (n2 : nobx o2 = true) (h1 : toD o1 = .tup d1) (h2 : toD o2 = .tup d2) (l : d1.length + d2.length ≤ 100000) (q : Q (.sh (.tup (d1 ++ d2))) e) : WR c (rAddX c.K) o1 o2 e Q := fun S H ts vs x y σ r Q' k => by
  obtain ⟨S', s, t1, t2, r1⟩ := r.freeze2 n1 n2
  rw [h1] at t1
  rw [h2] at t2
  have t1' := t1
  have t2' := t2
  simp only [Rep] at t1 t2
  obtain ⟨p, xs, ob, rfl, a1, a0, a2⟩ := t1
  obtain ⟨p', ys, ob', rfl, b1, b0, b2⟩ := t2
  have l1 := a2.len
  have l2 := b2.len
  refine .inr (.inr (.inl ⟨p, p', xs, ys, rfl, rfl, tupQ r1.sub a1, tupQ r1.sub b1, sz (by rw [l1, l2]; exact l), fun z => ?_, fun z w => ?_, fun z w a o ha ho => ?_⟩))
  · have : d1 = [] := List.length_eq_zero_iff.mp (by rw [← l1, z] <;> rfl)
    subst this
    exact k _ _ _ _ _ (r1.push t2') q
  · have : d2 = [] := List.length_eq_zero_iff.mp (by rw [← l2, w] <;> rfl)
    subst this
    rw [List.append_nil] at q
    exact k _ _ _ _ _ (r1.push t1') q
  · obtain ⟨S2, r2⟩ := (r1.pushes (Reps.app a2 b2)).tuple (by rw [List.length_append, l1, l2, List.length_append]) ha ho
    exact k _ _ _ _ _ r2 q
theorem wr_addS {i j : Str} (l : i.length + j.length ≤ 100000) (q : Q (.sh (.str (i ++ j))) e) : WR c (rAddX c.K) (.sh (.str i)) (.sh (.str j)) e Q := fun S H ts vs x y σ r Q' k => by
  have t1 : x = V.str i := r.top2
  have t2 : y = V.str j := r.top
  exact .inr (.inr (.inr ⟨i, j, t1, t2, sz l, k _ _ _ _ _ (r.pop.pop.push (d := .str _) rfl) q⟩))
def rMulX : R2 := fun x y H Q => rI CMul (fun i j => .int (i * j)) x y H Q ∨ rRep x y H Q
theorem op_mulX {X : Cx} : OpR X (binaryOp .Mult) rMulX := op_mul.or op_rep
theorem wr_mulI {i j : Int} (h : CMul i j) (q : Q (.sh (.int (i * j))) e) : WR c rMulX (.sh (.int i)) (.sh (.int j)) e Q := fun S H ts vs x y σ r Q' k => by
  have t1 : x = V.int i := r.top2
  have t2 : y = V.int j := r.top
  exact .inl ⟨i, j, t1, t2, h, k _ _ _ _ _ (r.pop.pop.push (d := .int _) rfl) q⟩
theorem reps_rep {K : PySem.W.Frag} {S : Hp} {ds : List D} {us : List V} (h : Reps K S ds us) : ∀ n : Nat, Reps K S (List.replicate n ds).flatten (List.replicate n us).flatten
  | 0 => by simp [Reps]
  | n + 1 => by
    rw [List.replicate_succ, List.replicate_succ, List.flatten_cons, List.flatten_cons]
    exact Reps.app h (reps_rep h n)
theorem wr_mulL {d1 : List D} {n : Int} (n1 : nobx o1 = true) (h1 : toD o1 = .lst d1) (ln : n ≤ 100000) (lm : -100000 ≤ n) (l : d1.length * n.toNat ≤ 100000) (q : Q (.lst ((List.replicate n.toNat d1).flatten.map O.sh)) e) : WR c rMulX o1 (.sh (.int n)) e Q := fun S H ts vs x y σ r Q' k => by
  obtain ⟨S', s, t1, t2, r1⟩ := r.freeze2 n1 rfl
  rw [h1] at t1
  simp only [toD, Rep] at t1 t2
  obtain ⟨p, xs, rfl, a1, a2⟩ := t1
  have rr := reps_rep a2 n.toNat
  exact .inr ⟨p, n, xs, rfl, t2, r1.sub _ _ a1, by omega, by omega, sz (by rw [a2.len]; exact l), fun z hz => k _ _ _ _ _ ((r1.pushes rr).list (by rw [rr.len, List.length_map]) hz) q⟩
/-! ### in -/
theorem wr_inD {ds : List D} (n1 : nobx o1 = true) (n2 : nobx o2 = true) (h2 : toD o2 = .lst ds) (k1 : okD (toD o1) = true) (k2 : okD (toD o2) = true) (q : Q (.sh (.bl (ds.any fun z => D.eqv z (toD o1)))) e) : WR c (rInD c.K) o1 o2 e Q := fun S H ts vs x y σ r Q' k => by
  obtain ⟨S', s, t1, t2, r1⟩ := r.freeze2 n1 n2
  have a2 := Rep.dp r1.sub _ _ (okD_ns k2) t2
  have k2 := (okD_sh k2)
  rw [h2] at a2 k2
  simp only [toPy] at a2
  have ee : ∀ ds : List D, ((toPys ds).any fun z => PyData.eqv z (toPy (toD o1))) = ds.any fun z => D.eqv z (toD o1) := fun ds => by
    induction ds with
    | nil => rfl
    | cons d ds ih =>
      simp only [toPys, List.any_cons, ih]
      rfl
  exact ⟨_, _, Rep.dp r1.sub _ _ (okD_ns k1) t1, a2, (okD_sh k1), by simpa only [toPy] using k2, by rw [ee]; exact k _ _ _ _ _ (r1.push (d := .bl _) rfl) q⟩
theorem wr_niD {ds : List D} (n1 : nobx o1 = true) (n2 : nobx o2 = true) (h2 : toD o2 = .lst ds) (k1 : okD (toD o1) = true) (k2 : okD (toD o2) = true) (q : Q (.sh (.bl (!ds.any fun z => D.eqv z (toD o1)))) e) : WR c (rNotInD c.K) o1 o2 e Q := fun S H ts vs x y σ r Q' k => by
  obtain ⟨S', s, t1, t2, r1⟩ := r.freeze2 n1 n2
  have a2 := Rep.dp r1.sub _ _ (okD_ns k2) t2
  have k2 := (okD_sh k2)
  rw [h2] at a2 k2
  simp only [toPy] at a2
  have ee : ∀ ds : List D, ((toPys ds).any fun z => PyData.eqv z (toPy (toD o1))) = ds.any fun z => D.eqv z (toD o1) := fun ds => by
    induction ds with
    | nil => rfl
    | cons d ds ih =>
      simp only [toPys, List.any_cons, ih]
      rfl
  exact ⟨_, _, Rep.dp r1.sub _ _ (okD_ns k1) t1, a2, (okD_sh k1), by simpa only [toPy] using k2, by rw [ee]; exact k _ _ _ _ _ (r1.push (d := .bl _) rfl) q⟩
/-! ### slices -/
def rSlF (K : PySem.W.Frag) : V → Option Int → Option Int → Hp → VK → Prop := fun x lo hi H Q => ∃ a xs, x = .ref a ∧ SqT K H a xs ∧
  (HT.sIx xs.length 0 lo = 0 ∧ HT.sIx xs.length xs.length hi = xs.length → Q (.ref a) H) ∧ (¬ (HT.sIx xs.length 0 lo = 0 ∧ HT.sIx xs.length xs.length hi = xs.length) → ∀ p o, H p = none → o.dict = none → Q (.ref p) (upd H p (.frz o (.tup (cutV xs lo hi)))))
theorem sl_tupF {X : Cx} : SlR X (rSlF X.K) := by
  intro pn s0 sg Hh x v vl vu lo hi sl Qq Ii rx hs pl pu hw
  obtain ⟨a, xs, rfl, hx, q1, q2⟩ := hw
  by_cases hc : HT.sIx xs.length 0 lo = 0 ∧ HT.sIx xs.length xs.length hi = xs.length
  · exact sl_tupA pn s0 sg Hh _ v vl vu lo hi sl Qq Ii rx hs pl pu ⟨a, xs, rfl, hx, q1, fun z => absurd hc z⟩
  cases rx
  obtain ⟨its, r, ht, hz⟩ := Ii.tuple hx
  have hlen : its.toArray.size = xs.length := by
    rw [List.size_toArray]
    exact r.length.symm
  refine ⟨"tuple", _, PyProof.Rows.slot_tuple_getitem.lookup, ht.typeIs, HT.getItem_tuple_cut ht hs pl pu (by rw [hlen]; exact hc) ?_ (by rw [hlen]; exact hz)⟩
  rw [hlen]
  have I1 := Ii.laid (t' := s0.toks) (o := .frz { cls := .type "tuple", data := .seq ((its.toArray.toList.drop (HT.sIx xs.length 0 lo)).take (HT.sIx xs.length xs.length hi - HT.sIx xs.length 0 lo)).toArray } (.tup (cutV xs lo hi))) (fun b ob z => Heap.get?_push_of_some _ z) (Nat.le_refl _) ⟨Heap.get?_push_size _ rfl, ⟨Nat.le_trans (cutV_length xs lo hi) hz, _, (r.drop (HT.sIx xs.length 0 lo)).take (HT.sIx xs.length xs.length hi - HT.sIx xs.length 0 lo), PyProof.Rows.IsTup.new _ _⟩⟩
  exact ⟨.ref s0.heap.objs.size, _, I1, rfl, q2 hc _ _ (Ii.hok.fresh (Nat.le_refl _)) rfl⟩
def rSlX (K : PySem.W.Frag) : V → Option Int → Option Int → Hp → VK → Prop := fun x lo hi H Q => rSlL K x lo hi H Q ∨ rSlF K x lo hi H Q
theorem sl_X {X : Cx} : SlR X (rSlX X.K) := sl_list.or sl_tupF
def cutD {α : Type} (xs : List α) (lo hi : Option Int) : List α := (xs.drop (HT.sIx xs.length 0 lo)).take (HT.sIx xs.length xs.length hi - HT.sIx xs.length 0 lo)
theorem Reps.drop {K : PySem.W.Frag} {S : Hp} : ∀ {ds : List D} {us : List V} (n : Nat), Reps K S ds us → Reps K S (ds.drop n) (us.drop n)
  | ds, us, 0, h => h
  | [], us, n + 1, h => by
    simp only [Reps] at h
    subst h
    simp [Reps]
  | d :: ds, us, n + 1, h => by
    simp only [Reps] at h
    obtain ⟨v, r, rfl, h1, h2⟩ := h
    exact Reps.drop n h2
theorem Reps.take {K : PySem.W.Frag} {S : Hp} : ∀ {ds : List D} {us : List V} (n : Nat), Reps K S ds us → Reps K S (ds.take n) (us.take n)
  | ds, us, 0, h => by simp [Reps]
  | [], us, n + 1, h => by
    simp only [Reps] at h
    subst h
    simp [Reps]
  | d :: ds, us, n + 1, h => by
    simp only [Reps] at h
    obtain ⟨v, r, rfl, h1, h2⟩ := h
    simp only [List.take_succ_cons, Reps]
    exact ⟨v, _, rfl, h1, Reps.take n h2⟩
theorem Reps.cut {K : PySem.W.Frag} {S : Hp} {ds : List D} {us : List V} (h : Reps K S ds us) (lo hi : Option Int) : Reps K S (cutD ds lo hi) (cutV us lo hi) := by
  unfold cutD cutV
  rw [h.len]
  exact (h.drop _).take _
theorem wo_none {P : Option Int → Env → Prop} (q : P none e) : WO c tNoPart e P := fun S H ts vs σ r Q' k => k _ _ _ _ r q
theorem wo_some {te : TE} {P : Option Int → Env → Prop} (h : WE c te e fun o e1 => ∃ i, o = .sh (.int i) ∧ P (some i) e1) : WO c (tPart te) e P := fun S H ts vs σ r Q' k =>
  h S H ts vs σ r _ fun o v e1 S1 H1 r1 ⟨i, e2, q⟩ => by
    subst e2
    exact ⟨i, r1.top, k _ _ _ _ r1.pop q⟩
theorem we_sl {te : TE} {tl th : TO} (h : WE c te e fun o e1 => WO c tl e1 fun lo e2 => WO c th e2 fun hi e3 => nobx o = true ∧ ((∃ ds, toD o = .lst ds ∧ Q (.lst ((cutD ds lo hi).map O.sh)) e3) ∨ ∃ ds, toD o = .tup ds ∧ Q (.sh (.tup (cutD ds lo hi))) e3)) :
    WE c (tSl (rSlX c.K) te tl th) e Q := fun S H ts vs σ r Q' k => h S H ts vs σ r _ fun o v e1 S1 H1 r1 q1 => q1 S1 H1 _ _ σ r1 _ fun lo e2 S2 H2 r2 q2 => q2 S2 H2 _ _ σ r2 _ fun hi e3 S3 H3 r3 ⟨n, q⟩ => by
  obtain ⟨S4, s4, t1, r4⟩ := R.freeze1 r3 n
  rcases q with ⟨ds, hd, q⟩ | ⟨ds, hd, q⟩
  · rw [hd] at t1
    simp only [Rep] at t1
    obtain ⟨p, xs, rfl, a1, a2⟩ := t1
    have rc := a2.cut lo hi
    exact .inl ⟨p, xs, rfl, .of (r4.sub _ _ a1), fun z hz => k _ _ _ _ _ ((r4.pushes rc).list (by rw [rc.len, List.length_map]) hz) q⟩
  · rw [hd] at t1
    have t2 := t1
    simp only [Rep] at t1
    obtain ⟨p, xs, ob, rfl, a1, a0, a2⟩ := t1
    have rc := a2.cut lo hi
    have ll := a2.len
    refine .inr ⟨p, xs, rfl, tupQ r4.sub a1, fun z => ?_, fun z a o' ha ho => ?_⟩
    · have ec : cutD ds lo hi = ds := by
        unfold cutD
        rw [← ll, z.1, z.2, List.drop_zero, Nat.sub_zero, ll, List.take_length]
      rw [ec] at q
      exact k _ _ _ _ _ (r4.push t2) q
    · obtain ⟨S5, r5⟩ := (r4.pushes rc).tuple rc.len ha ho
      exact k _ _ _ _ _ r5 q
/-! ### methods of a list that a name holds alone -/
theorem we_meth {i : Nat} {ta : TA} {ls0 : List O} {r : V → List V → Hp → VK → Prop} (h0 : e.sl[i]? = some (some (.lst ls0)))
    (h : WA c ta e fun os e1 => ∃ ls, e1.sl[i]? = some (some (.lst ls)) ∧ ∀ S H ts vs σ p xs us, R c S H (.lst ls :: (os ++ ts)) (.ref p :: (us ++ vs)) ⟨e1.sl.set i none, e1.g⟩ σ → us.length = os.length → H p = some (.lst xs) → xs.length = ls.length → ∀ Q' : VK,
      (∀ o v ls' e2 S' H', R c S' H' (.lst ls' :: o :: ts) (.ref p :: v :: vs) e2 σ → Q o ⟨e2.sl.set i (some (.lst ls')), e2.g⟩ → Q' v H') → r (.ref p) us H Q') :
    WE c (tBM c.K "list" r (tVar i) ta) e Q := fun S H ts vs σ rr Q' k => by
  obtain ⟨v, h1, r1⟩ := rr.out h0
  obtain ⟨p, xs, rfl, h2, _⟩ := r1.ref_top
  refine ⟨.ref p, h1, .inl ⟨rfl, xs, .of h2⟩, h S H ts vs σ rr _ fun os us e1 S1 H1 r1 l ⟨ls, e3, q⟩ => ?_⟩
  obtain ⟨v', k1, r2⟩ := R.out r1 e3
  rw [h1] at k1
  obtain rfl := Option.some.inj (Option.some.inj k1)
  obtain ⟨p', xs', ep, k2, k3⟩ := r2.ref_top
  obtain rfl := V.ref.inj ep
  refine q S1 H1 ts vs σ p xs' us r2 l k2 k3 Q' fun o v ls' e2 S' H' r3 z => ?_
  exact k _ _ _ _ _ (r3.inn h1) z
theorem we_append {i : Nat} {ta : TA} {ls0 : List O} (h0 : e.sl[i]? = some (some (.lst ls0))) (h : WA c ta e fun os e1 => ∃ o ls, os = [o] ∧ e1.sl[i]? = some (some (.lst ls)) ∧ ls.length < 100000 ∧ Q (.sh .non) ⟨e1.sl.set i (some (.lst (ls ++ [o]))), e1.g⟩) :
    WE c (tBM c.K "list" rAppend (tVar i) ta) e Q := by
  refine we_meth h0 ?_
  refine fun S H ts vs σ rr Q' k => h S H ts vs σ rr Q' fun os us e1 S1 H1 r1 l ⟨o, ls, e2, e3, e4, q⟩ => k os us e1 S1 H1 r1 l ⟨ls, e3, fun S H ts vs σ p xs us r l hp lx Q' k => ?_⟩
  subst e2
  obtain ⟨y, rfl⟩ := vals_one l
  refine ⟨p, xs, y, rfl, rfl, hp, szl (by rw [lx]; exact e4), k (.sh .non) .non (ls ++ [o]) _ _ _ (R.swap (R.push (d := .non) (v := .non) (R.app r hp) rfl)) ?_⟩
  simp only [List.set_set]
  exact q
theorem we_popAt {i : Nat} {ta : TA} {ls0 : List O} (h0 : e.sl[i]? = some (some (.lst ls0))) (h : WA c ta e fun os e1 => ∃ (k : Nat) (o : O) (ls : List O), os = [.sh (.int (k : Int))] ∧ e1.sl[i]? = some (some (.lst ls)) ∧ ls[k]? = some o ∧ k < 100000 ∧ Q o ⟨e1.sl.set i (some (.lst (ls.eraseIdx k))), e1.g⟩) :
    WE c (tBM c.K "list" rPopAt (tVar i) ta) e Q := by
  refine we_meth h0 ?_
  refine fun S H ts vs σ rr Q' k => h S H ts vs σ rr Q' fun os us e1 S1 H1 r1 l ⟨m, o, ls, e2, e3, e4, e5, q⟩ => k os us e1 S1 H1 r1 l ⟨ls, e3, fun S H ts vs σ p xs us r l hp lx Q' k => ?_⟩
  subst e2
  obtain ⟨y, rfl⟩ := vals_one l
  have t : y = V.int (m : Int) := R.top2 r
  subst t
  have r2 := (R.swap r).pop
  obtain ⟨z, z1, r3⟩ := r2.popAt hp e4
  have lt : m < xs.length := (List.getElem?_eq_some_iff.mp z1).1
  have sq : seqIndex? (m : Int) xs.length = some m := by
    have := (ixN_seq (n := xs.length) (i := (m : Int)) (j := m) (by
      unfold ixN
      rw [if_pos (by omega), if_pos (by omega)]
      simp)).1
    exact this
  refine ⟨p, xs, m, m, z, rfl, rfl, hp, by omega, by omega, sq, z1, k o z (ls.eraseIdx m) _ _ _ r3 ?_⟩
  simp only [List.set_set]
  exact q
mutual
def indep : O → Bool
  | .sh (.lst _) => false
  | .sh (.tup _) => false
  | .sh (.raw _) => false
  | .sh (.scr _) => false
  | .sh (.set _) => false
  | .sh (.dct _ _) => false
  | .sh _ => true
  | .lst os => indeps os
  | .dct _ os => indeps os
def indeps : List O → Bool
  | [] => true
  | o :: os => indep o && indeps os
end
mutual
theorem RepO.indep {K : PySem.W.Frag} {b : Addr → Prop} {S S2 H : Hp} : ∀ (o : O) (v : V) (f : Fp), TX.indep o = true → RepO K b S H o v f → RepO K b S2 H o v f
  | .sh .non, v, f, _, h => by simpa only [RepO, Rep] using h
  | .sh (.bl _), v, f, _, h => by simpa only [RepO, Rep] using h
  | .sh (.int _), v, f, _, h => by simpa only [RepO, Rep] using h
  | .sh (.str _), v, f, _, h => by simpa only [RepO, Rep] using h
  | .sh (.lst _), v, f, n, h => by simp [TX.indep] at n
  | .sh (.tup _), v, f, n, h => by simp [TX.indep] at n
  | .sh (.raw _), v, f, n, h => by simp [TX.indep] at n
  | .sh (.scr _), v, f, n, h => by simp [TX.indep] at n
  | .sh (.set _), v, f, n, h => by simp [TX.indep] at n
  | .sh (.dct _ _), v, f, n, h => by simp [TX.indep] at n
  | .lst os, v, f, n, h => by
    simp only [RepO] at h ⊢
    obtain ⟨p, vs, g, h1, h2, h3, h4⟩ := h
    exact ⟨p, vs, g, h1, h2, RepOs.indep os vs g (by simpa [TX.indep] using n) h3, h4⟩
  | .dct ks os, v, f, n, h => by
    simp only [RepO] at h ⊢
    obtain ⟨p, vs, g, h1, h2, h3, h4⟩ := h
    exact ⟨p, vs, g, h1, h2, RepOs.indep os vs g (by simpa [TX.indep] using n) h3, h4⟩
theorem RepOs.indep {K : PySem.W.Frag} {b : Addr → Prop} {S S2 H : Hp} : ∀ (os : List O) (vs : List V) (f : Fp), TX.indeps os = true → RepOs K b S H os vs f → RepOs K b S2 H os vs f
  | [], vs, f, _, h => by simpa only [RepOs] using h
  | o :: os, vs, f, n, h => by
    simp only [RepOs] at h ⊢
    simp only [TX.indeps, Bool.and_eq_true] at n
    obtain ⟨v, r, f1, f2, h1, h2, h3, h4⟩ := h
    exact ⟨v, r, f1, f2, h1, RepO.indep o v f1 n.1 h2, RepOs.indep os r f2 n.2 h3, h4⟩
end
def hide : List (Option O) → List (Option O)
  | [] => []
  | some (.lst _) :: sl => none :: hide sl
  | some (.dct _ _) :: sl => none :: hide sl
  | o :: sl => o :: hide sl
theorem RepE.hide {K : PySem.W.Frag} {b : Addr → Prop} {S H : Hp} : ∀ {sl : List (Option O)} {σ : St} {f : Fp}, RepE K b S H sl σ f → RepE K b S H (TX.hide sl) σ fun _ => 0
  | [], σ, f, h => by
    simp only [RepE, TX.hide] at h ⊢
    exact ⟨h.1, fun _ => trivial⟩
  | none :: sl, σ, f, h => by
    simp only [RepE, TX.hide] at h ⊢
    obtain ⟨x, r, h1, h2⟩ := h
    exact ⟨x, r, h1, RepE.hide h2⟩
  | some (.lst l) :: sl, σ, f, h => by
    simp only [RepE, TX.hide] at h ⊢
    obtain ⟨v, r, f1, f2, h1, h2, h3, h4⟩ := h
    exact ⟨some v, r, h1, RepE.hide h3⟩
  | some (.dct ks l) :: sl, σ, f, h => by
    simp only [RepE, TX.hide] at h ⊢
    obtain ⟨v, r, f1, f2, h1, h2, h3, h4⟩ := h
    exact ⟨some v, r, h1, RepE.hide h3⟩
  | some (.sh d) :: sl, σ, f, h => by
    simp only [RepE, TX.hide] at h ⊢
    obtain ⟨v, r, f1, f2, h1, h2, h3, h4⟩ := h
    have z : ∀ a, f1 a = 0 := by
      simp only [RepO] at h2
      exact h2.2
    exact ⟨v, r, fun _ => 0, fun _ => 0, h1, h2.fpc fun a => (z a).symm, RepE.hide h3, fun _ => rfl⟩
/-- what holds of the state while a list is only read -/
theorem R.lend {i : Nat} {o0 : O} (r : R c S H ts vs e σ) (h : e.sl[i]? = some (some o0)) :
    ∃ S1, R ⟨c.K, H, S1, fun _ => False, σ, c.fx⟩ S1 H [] [] ⟨(hide e.sl).set i (some (.sh (toD o0))), e.g⟩ σ ∧
      ∀ o v e' S2 H2, R ⟨c.K, H, S1, fun _ => False, σ, c.fx⟩ S2 H2 [o] [v] e' σ → indep o = true → ∃ S3, R c S3 H2 (o :: ts) (v :: vs) ⟨e.sl, e'.g⟩ σ := by
  obtain ⟨f1, f2, h1, h2, h3⟩ := r.rep
  obtain ⟨v, g1, g2, k1, k2, k3, k4⟩ := h2.take h
  have sm : Same S (fun a => if g1 a = 0 then S a else H a) := fun a u ha => by
    by_cases z : g1 a = 0
    · simp only [z, if_true]
      exact ha
    · have := h3 a
      rw [k4] at this
      rw [(this.2 (by omega)).1] at ha
      cases ha
  have sH : Same (fun a => if g1 a = 0 then S a else H a) H := fun a u ha => by
    by_cases z : g1 a = 0
    · simp only [z, if_true] at ha
      exact r.sub a u ha
    · simp only [z, if_false] at ha
      exact ha
  refine ⟨fun a => if g1 a = 0 then S a else H a, ⟨⟨fun _ => 0, fun _ => 0, by simp [RepOs], ?_, fun a => ⟨by (try dsimp only); omega, fun z => by (try dsimp only at z); omega⟩⟩, sH, Same.refl _, fun q z => .inl z, fun q o z _ => z, fun q z => z, fun _ _ => rfl⟩, fun o v' e' S2 H2 r2 io => ?_⟩
  · have q1 := (RepE.mono sm _ _ _ h2 (H' := H) fun _ _ => rfl).hide
    have fr : RepO c.K c.bx (fun a => if g1 a = 0 then S a else H a) H (.sh (toD o0)) v fun _ => 0 := by
      simp only [RepO]
      exact ⟨RepO.frz sm _ _ _ (nobx_all _) k2 fun a z => by simp only [z, if_false], fun _ => trivial⟩
    obtain ⟨f3, w1, w2⟩ := RepE.put (i := i) q1 fr
    rw [set_self k1] at w1
    have : ∀ a, (fun _ => 0 : Fp) a = f3 a := fun a => by
      have := w2 a
      (try dsimp only at this ⊢)
      omega
    have e0 : f3 = fun _ => 0 := funext fun a => (this a).symm
    rw [e0] at w1
    exact w1.anyb
  · obtain ⟨p1, p2, l1, l2, l3⟩ := r2.rep
    simp only [RepOs] at l1
    obtain ⟨w, r', q1, q2, e1, m1, m2, m3⟩ := l1
    obtain ⟨rfl, rfl⟩ := List.cons.inj e1
    have ext := r2.ext
    have s3 : Same S (fun a => if g1 a = 0 then S2 a else none) := fun a u ha => by
      have z : g1 a = 0 := by
        by_cases z : g1 a = 0
        · exact z
        · have := h3 a
          rw [k4] at this
          rw [(this.2 (by omega)).1] at ha
          cases ha
      simp only [z, if_true]
      exact ext a u (sm a u ha)
    refine ⟨fun a => if g1 a = 0 then S2 a else none, R.after (c := c) (S := S) (H := H) (ts := ts) (vs := vs) (e := ⟨e.sl, e'.g⟩) (σ := σ) (los := []) (lus := []) (s := []) (g := q1) (fl := fun _ => 0) ⟨r.rep, r.sub, r.ext, r.new, r.fr, r.dom, r.fix⟩ rfl (fun f1 _ z a => by simp only [RepOs] at z; exact z.2 a) s3 (fun a u ha => ?_) (fun a ha => ?_) (fun q u hq _ => r2.fr q u hq fun z => z) r2.dom ?_ fun a => ?_⟩
    · by_cases z : g1 a = 0
      · simp only [z, if_true] at ha
        exact r2.sub a u ha
      · simp only [z, if_false] at ha
        cases ha
    · by_cases z : g1 a = 0
      · simp only [z, if_true] at ha
        rcases r2.new a ha with y | y | y
        · simp only [z, if_true] at y
          exact .inl y
        · exact .inr (.inl y)
        · exact y.elim
      · simp only [z, if_false] at ha
        exact absurd rfl ha
    · simp only [RepOs]
      exact ⟨v', [], q1, fun _ => 0, rfl, (RepO.indep _ _ _ io m1).anyb, ⟨rfl, fun _ => rfl⟩, fun a => rfl⟩
    · have y := l3 a
      rw [m3, m2.2] at y
      refine ⟨by omega, fun z => ⟨?_, ?_⟩⟩
      · by_cases z2 : g1 a = 0
        · simp only [z2, if_true]
          exact (y.2 (by omega)).1
        · simp only [z2, if_false]
      · rcases (y.2 (by omega)).2 with w | w
        · exact .inl w
        · exact w.elim
theorem we_lend (i : Nat) {te : TE} {o0 : O} (h : e.sl[i]? = some (some o0))
    (k : ∀ c' : Ct, c'.K = c.K → c'.fx = c.fx → WE c' te ⟨(hide e.sl).set i (some (.sh (toD o0))), e.g⟩ fun o e' => indep o = true ∧ Q o ⟨e.sl, e'.g⟩) : WE c te e Q := fun S H ts vs σ r Q' q => by
  obtain ⟨S1, r1, back⟩ := r.lend h
  refine k ⟨c.K, H, S1, fun _ => False, σ, c.fx⟩ rfl rfl S1 H [] [] σ r1 Q' fun o v e' S2 H2 r2 ⟨io, z⟩ => ?_
  obtain ⟨S3, r3⟩ := back o v e' S2 H2 r2 io
  exact q _ _ _ _ _ r3 z
theorem wt_lend (i : Nat) {tt : TT} {o0 : O} {B : Bool → Env → Prop} (h : e.sl[i]? = some (some o0))
    (k : ∀ c' : Ct, c'.K = c.K → c'.fx = c.fx → WT c' tt ⟨(hide e.sl).set i (some (.sh (toD o0))), e.g⟩ fun b e' => B b ⟨e.sl, e'.g⟩) : WT c tt e B := fun S H ts vs σ r Q' q => by
  obtain ⟨S1, r1, back⟩ := r.lend h
  refine k ⟨c.K, H, S1, fun _ => False, σ, c.fx⟩ rfl rfl S1 H [] [] σ r1 Q' fun b e' S2 H2 r2 z => ?_
  obtain ⟨S3, r3⟩ := back (.sh .non) .non e' S2 H2 (r2.push (d := .non) rfl) rfl
  exact q _ _ _ _ r3.pop z
end
end TX
end

section
namespace TX
open PySem L2
section
variable {c : Ct} {S H : Hp} {ts : List O} {vs : List V} {e : Env} {σ : St} {o o1 o2 : O} {u v x y : V} {Q : O → Env → Prop}
/-! ### all, any, sum, max, min -/
theorem reps_bl {K : PySem.W.Frag} {S : Hp} : ∀ {bs : List Bool} {us : List V}, Reps K S (bs.map D.bl) us → us = bs.map V.bl
  | [], us, h => by
    simp only [List.map_nil, Reps] at h
    rw [h]
    rfl
  | b :: bs, us, h => by
    simp only [List.map_cons, Reps, Rep] at h
    obtain ⟨v, r, rfl, rfl, h2⟩ := h
    rw [reps_bl h2]
    rfl
theorem reps_int {K : PySem.W.Frag} {S : Hp} : ∀ {bs : List Int} {us : List V}, Reps K S (bs.map D.int) us → us = bs.map V.int
  | [], us, h => by
    simp only [List.map_nil, Reps] at h
    rw [h]
    rfl
  | b :: bs, us, h => by
    simp only [List.map_cons, Reps, Rep] at h
    obtain ⟨v, r, rfl, rfl, h2⟩ := h
    rw [reps_int h2]
    rfl
theorem wc_all {bs : List Bool} (n1 : nobx o1 = true) (h : toD o1 = .lst (bs.map D.bl)) (q : Q (.sh (.bl (bs.all id))) e) : WC c (rAll c.K) [o1] e Q := fun S H ts vs us σ r l Q' k => by
  obtain ⟨x, rfl⟩ := vals_one l
  obtain ⟨S', s, t1, r1⟩ := R.freeze1 r n1
  rw [h] at t1
  simp only [Rep] at t1
  obtain ⟨p, xs, rfl, h1, h2⟩ := t1
  exact ⟨p, bs, rfl, .of (by rw [← reps_bl h2]; exact r1.sub _ _ h1), k _ _ _ _ _ (r1.push (d := .bl _) rfl) q⟩
theorem wc_any {bs : List Bool} (n1 : nobx o1 = true) (h : toD o1 = .lst (bs.map D.bl)) (q : Q (.sh (.bl (bs.any id))) e) : WC c (rAny c.K) [o1] e Q := fun S H ts vs us σ r l Q' k => by
  obtain ⟨x, rfl⟩ := vals_one l
  obtain ⟨S', s, t1, r1⟩ := R.freeze1 r n1
  rw [h] at t1
  simp only [Rep] at t1
  obtain ⟨p, xs, rfl, h1, h2⟩ := t1
  exact ⟨p, bs, rfl, .of (by rw [← reps_bl h2]; exact r1.sub _ _ h1), k _ _ _ _ _ (r1.push (d := .bl _) rfl) q⟩
theorem wc_sum {ns : List Int} (n1 : nobx o1 = true) (h : toD o1 = .lst (ns.map D.int)) (q : Q (.sh (.int ns.sum)) e) : WC c (rSum c.K) [o1] e Q := fun S H ts vs us σ r l Q' k => by
  obtain ⟨x, rfl⟩ := vals_one l
  obtain ⟨S', s, t1, r1⟩ := R.freeze1 r n1
  rw [h] at t1
  simp only [Rep] at t1
  obtain ⟨p, xs, rfl, h1, h2⟩ := t1
  exact ⟨p, ns, rfl, .of (by rw [← reps_int h2]; exact r1.sub _ _ h1), k _ _ _ _ _ (r1.push (d := .int _) rfl) q⟩
theorem wc_max {ns : List Int} (n1 : nobx o1 = true) (h : toD o1 = .lst (ns.map D.int)) (hn : 0 < ns.length) (q : ∀ m, m ∈ ns → (∀ y, y ∈ ns → y ≤ m) → Q (.sh (.int m)) e) : WC c (rMax c.K) [o1] e Q := fun S H ts vs us σ r l Q' k => by
  obtain ⟨x, rfl⟩ := vals_one l
  obtain ⟨S', s, t1, r1⟩ := R.freeze1 r n1
  rw [h] at t1
  simp only [Rep] at t1
  obtain ⟨p, xs, rfl, h1, h2⟩ := t1
  exact ⟨p, ns, rfl, .of (by rw [← reps_int h2]; exact r1.sub _ _ h1), hn, fun m a b => k _ _ _ _ _ (r1.push (d := .int _) rfl) (q m a b)⟩
theorem wc_min {ns : List Int} (n1 : nobx o1 = true) (h : toD o1 = .lst (ns.map D.int)) (hn : 0 < ns.length) (q : ∀ m, m ∈ ns → (∀ y, y ∈ ns → m ≤ y) → Q (.sh (.int m)) e) : WC c (rMin c.K) [o1] e Q := fun S H ts vs us σ r l Q' k => by
  obtain ⟨x, rfl⟩ := vals_one l
  obtain ⟨S', s, t1, r1⟩ := R.freeze1 r n1
  rw [h] at t1
  simp only [Rep] at t1
  obtain ⟨p, xs, rfl, h1, h2⟩ := t1
  exact ⟨p, ns, rfl, .of (by rw [← reps_int h2]; exact r1.sub _ _ h1), hn, fun m a b => k _ _ _ _ _ (r1.push (d := .int _) rfl) (q m a b)⟩
/-! ### isinstance of a built-in type -/
def tyD : D → String
  | .non => "NoneType"
  | .bl _ => "bool"
  | .int _ => "int"
  | .str _ => "str"
  | .lst _ => "list"
  | .tup _ => "tuple"
  | .raw _ => "tuple"
  | .scr _ => "list"
  | .set _ => "set"
  | .dct _ _ => "dict"
theorem rep_ty {K : PySem.W.Frag} {S H : Hp} (s : Same S H) : ∀ {d : D} {v : V}, Rep K S d v → TyX K H v (.type (tyD d))
  | .non, v, h => by
    simp only [Rep] at h
    subst h
    exact .base .non
  | .bl b, v, h => by
    simp only [Rep] at h
    subst h
    exact .base (.bl b)
  | .int b, v, h => by
    simp only [Rep] at h
    subst h
    exact .base (.int b)
  | .str b, v, h => by
    simp only [Rep] at h
    subst h
    exact .base (.str b)
  | .lst ds, v, h => by
    simp only [Rep] at h
    obtain ⟨p, vs, rfl, h1, h2⟩ := h
    exact .base (.lst (s _ _ h1))
  | .tup ds, v, h => by
    simp only [Rep] at h
    obtain ⟨p, vs, o, rfl, h1, ho, h2⟩ := h
    exact .fTuple (s _ _ h1)
  | .raw ds, v, h => by
    simp only [Rep] at h
    obtain ⟨p, vs, rfl, h1, h2⟩ := h
    exact .base (.tup (s _ _ h1))
  | .scr ns, v, h => by
    simp only [Rep] at h
    obtain ⟨p, rfl, h1⟩ := h
    rcases h1 with (h1 | ⟨o, h1⟩) | ⟨o, its, n, h1, h2, _⟩
    · exact .base (.lst (s _ _ h1))
    · exact .base (.frz (s _ _ h1))
    · exact .kList h1 h2
  | .set ns, v, h => by
    simp only [Rep] at h
    obtain ⟨p, n, rfl, h1⟩ := h
    exact .set (s _ _ h1)
  | .dct f n, v, h => by
    simp only [Rep] at h
    obtain ⟨p, vs, rfl, h1, _⟩ := h
    exact .base (.dK (s _ _ h1))
def isiT (t n : String) : Bool := match n with
  | "list" => t == "list"
  | "tuple" => t == "tuple"
  | "int" => t == "int" || t == "bool"
  | "bool" => t == "bool"
  | "str" => t == "str"
  | _ => false
def fiveT (n : String) : Bool := n == "list" || n == "tuple" || n == "int" || n == "bool" || n == "str"
theorem kit_five : ∀ {n : String} (d : D), fiveT n = true → kitB (tyD d) n = some (isiT (tyD d) n) := by
  have all : ∀ t ∈ ["NoneType", "bool", "int", "str", "list", "tuple", "set", "dict"], ∀ n ∈ ["list", "tuple", "int", "bool", "str"], kitB t n = some (isiT t n) := by decide +kernel
  intro n d h
  refine all _ ?_ n ?_
  · cases d <;> simp [tyD]
  · simp only [fiveT, Bool.or_eq_true, beq_iff_eq] at h
    simp only [List.mem_cons, List.mem_nil_iff, or_false]
    rcases h with (((h | h) | h) | h) | h <;> simp [h]
theorem we_isi {n : String} {te : TE} (h : WE c te e fun o e1 => nobx o = true ∧ Q (.sh (.bl (isiT (tyD (toD o)) n))) e1) (f : fiveT n = true) : WE c (tCB (rIsi c.K) (tCons te (tCons (tC (.ty n)) tNil))) e Q := fun S H ts vs σ rr Q' k =>
  h S H ts vs σ rr _ fun o v e1 S1 H1 r1 ⟨n1, q⟩ => by
    obtain ⟨S2, s2, t2, r2⟩ := R.freeze1 r1 n1
    exact ⟨v, .ty n, _, _, _, rfl, .ty n, rep_ty r2.sub t2, kit_ty (kit_five _ f), k _ _ _ _ _ (r2.push (d := .bl _) rfl) q⟩
theorem we_isi2 {n m : String} {te : TE} (h : WE c te e fun o e1 => nobx o = true ∧ Q (.sh (.bl (isiT (tyD (toD o)) n || isiT (tyD (toD o)) m))) e1) (f : fiveT n = true) (f2 : fiveT m = true) :
    WE c (tCB (rIsiT c.K) (tCons te (tCons (tTup (tCons (tC (.ty n)) (tCons (tC (.ty m)) tNil))) tNil))) e Q := fun S H ts vs σ rr Q' k =>
  h S H ts vs σ rr _ fun o v e1 S1 H1 r1 ⟨n1, q⟩ => by
    obtain ⟨S2, s2, t2, r2⟩ := R.freeze1 r1 n1
    refine ⟨by show 2 ≤ sizeLine; decide, fun p hp => ?_⟩
    obtain ⟨r3, s3⟩ := r2.share (u := .tup [.ty n, .ty m]) hp
    refine ⟨v, p, [.ty n, .ty m], _, [.type n, .type m], isiT (tyD (toD o)) n || isiT (tyD (toD o)) m, rfl, upd_same, .cons (.ty n) (.cons (.ty m) .nil), rep_ty r3.sub (Rep.mono s3 _ _ t2), ?_, k _ _ _ _ _ (r3.push (d := .bl _) rfl) q⟩
    refine kitAny_cons (kit_ty (kit_five _ f)) (fun z => ?_) fun z => by rw [z]; rfl
    refine kitAny_cons (kit_ty (kit_five _ f2)) (fun z2 => ?_) fun z2 => by rw [z2, z]; rfl
    rw [z, z2]
    rfl
/-! ### pairs walked: zip, enumerate; unpacking -/
def zipD : List D → List D → List D
  | x :: xs, y :: ys => .raw [x, y] :: zipD xs ys
  | _, _ => []
theorem zipD_get : ∀ (xs ys : List D) (i : Nat), (zipD xs ys)[i]? = match xs[i]?, ys[i]? with | some x, some y => some (.raw [x, y]) | _, _ => none
  | [], ys, i => by cases ys <;> simp [zipD]
  | x :: xs, [], i => by
    simp only [zipD]
    cases h : (x :: xs)[i]? <;> simp
  | x :: xs, y :: ys, 0 => by simp [zipD]
  | x :: xs, y :: ys, i + 1 => by
    simp only [zipD, List.getElem?_cons_succ]
    exact zipD_get xs ys i
theorem zipD_len : ∀ xs ys : List D, (zipD xs ys).length = min xs.length ys.length
  | [], ys => by cases ys <;> simp [zipD]
  | x :: xs, [] => by simp [zipD]
  | x :: xs, y :: ys => by
    simp only [zipD, List.length_cons, zipD_len xs ys]
    omega
theorem good_zipL {K : PySem.W.Frag} {d1 d2 : List D} {a b : Addr} : Good K (Itz K a b) (zipD d1 d2) [.lst d1, .lst d2] [.ref a, .ref b] := fun S H s h => by
  simp only [Reps, Rep] at h
  obtain ⟨v, r, e1, ⟨p, xs, e2, h1, h2⟩, v', r', e3, ⟨p', ys, e4, h3, h4⟩, e5⟩ := h
  obtain ⟨rfl, rfl⟩ := List.cons.inj e1
  obtain ⟨rfl, e6⟩ := List.cons.inj e3
  obtain rfl := V.ref.inj e2
  obtain rfl := V.ref.inj e4
  have q1 : SqL K H a xs := .of (s _ _ h1)
  have q2 : SqL K H b ys := .of (s _ _ h3)
  refine ⟨fun i hi => ⟨xs, ys, q1, q2, ?_⟩, fun i d hd => ?_⟩
  · rw [zipD_len] at hi
    rw [h2.len, h4.len]
    omega
  · rw [zipD_get] at hd
    cases f1 : d1[i]? with
    | none =>
      rw [f1] at hd
      simp at hd
    | some x =>
      cases f2 : d2[i]? with
      | none =>
        rw [f1, f2] at hd
        simp at hd
      | some y =>
        rw [f1, f2] at hd
        simp only [Option.some.injEq] at hd
        subst hd
        obtain ⟨x', k1, k2⟩ := h2.get f1
        obtain ⟨y', k3, k4⟩ := h4.get f2
        refine ⟨⟨xs, ys, x', y', q1, q2, k1, k3⟩, fun z H' ⟨T, w1, w2, ez, hT, eH, g1, g2⟩ => .inr ⟨T, .tup [w1, w2], hT, eH, ?_⟩⟩
        have e1 := g1 xs q1
        have e2 := g2 ys q2
        rw [k1] at e1
        rw [k3] at e2
        cases e1
        cases e2
        have sm : Same S (upd S T (.tup [x', y'])) := Same.new (s.free hT)
        simp only [Rep, Reps]
        exact ⟨T, _, ez, upd_same, x', _, rfl, Rep.mono sm _ _ k2, y', _, rfl, Rep.mono sm _ _ k4, rfl⟩
theorem good_zipT {K : PySem.W.Frag} {d1 d2 : List D} {a b : Addr} : Good K (RZ.ItzT K a b) (zipD d1 d2) [.tup d1, .tup d2] [.ref a, .ref b] := fun S H s h => by
  simp only [Reps, Rep] at h
  obtain ⟨v, r, e1, ⟨p, xs, ob, e2, h1, h0, h2⟩, v', r', e3, ⟨p', ys, ob', e4, h3, h0', h4⟩, e5⟩ := h
  obtain ⟨rfl, rfl⟩ := List.cons.inj e1
  obtain ⟨rfl, e6⟩ := List.cons.inj e3
  obtain rfl := V.ref.inj e2
  obtain rfl := V.ref.inj e4
  have q1 : SqT K H a xs := tupQ s h1
  have q2 : SqT K H b ys := tupQ s h3
  refine ⟨fun i hi => ⟨xs, ys, q1, q2, ?_⟩, fun i d hd => ?_⟩
  · rw [zipD_len] at hi
    rw [h2.len, h4.len]
    omega
  · rw [zipD_get] at hd
    cases f1 : d1[i]? with
    | none =>
      rw [f1] at hd
      simp at hd
    | some x =>
      cases f2 : d2[i]? with
      | none =>
        rw [f1, f2] at hd
        simp at hd
      | some y =>
        rw [f1, f2] at hd
        simp only [Option.some.injEq] at hd
        subst hd
        obtain ⟨x', k1, k2⟩ := h2.get f1
        obtain ⟨y', k3, k4⟩ := h4.get f2
        refine ⟨⟨xs, ys, x', y', q1, q2, k1, k3⟩, fun z H' ⟨T, w1, w2, ez, hT, eH, g1, g2⟩ => .inr ⟨T, .tup [w1, w2], hT, eH, ?_⟩⟩
        have e1 := g1 xs q1
        have e2 := g2 ys q2
        rw [k1] at e1
        rw [k3] at e2
        cases e1
        cases e2
        have sm : Same S (upd S T (.tup [x', y'])) := Same.new (s.free hT)
        simp only [Rep, Reps]
        exact ⟨T, _, ez, upd_same, x', _, rfl, Rep.mono sm _ _ k2, y', _, rfl, Rep.mono sm _ _ k4, rfl⟩
theorem R.freezeTwo {o1 o2 : O} {us : List V} (r : R c S H ([o1, o2] ++ ts) (us ++ vs) e σ) (l : us.length = 2) (n1 : nobx o1 = true) (n2 : nobx o2 = true) :
    ∃ S' u w, us = [u, w] ∧ R c S' H (([toD o1, toD o2]).map O.sh ++ ts) ([u, w] ++ vs) e σ ∧ Rep c.K S' (toD o1) u ∧ Rep c.K S' (toD o2) w := by
  obtain ⟨u, w, rfl⟩ := vals_two l
  obtain ⟨S', s, r2⟩ := R.freezes (os := [o1, o2]) (us := [u, w]) r rfl (by simp [nobxs, n1, n2])
  exact ⟨S', u, w, rfl, r2, R.top r2, R.top (R.pop r2)⟩
theorem wi_zip {ta : TA} {P : List D → Env → Prop} (h : WA c ta e fun os e1 => ∃ o1 o2, os = [o1, o2] ∧ nobx o1 = true ∧ nobx o2 = true ∧ ∃ d1 d2, ((toD o1 = .lst d1 ∧ toD o2 = .lst d2) ∨ (toD o1 = .tup d1 ∧ toD o2 = .tup d2)) ∧ P (zipD d1 d2) e1) : WI c (RZ.iZipA c.K ta) e P := fun S H ts vs σ r R' k =>
  h S H ts vs σ r _ fun os us e1 S1 H1 r1 l ⟨o1, o2, e2, n1, n2, d1, d2, hd, q⟩ => by
    subst e2
    obtain ⟨S2, u, w, rfl, r2, t1, t2⟩ := R.freezeTwo r1 l n1 n2
    rcases hd with ⟨g1, g2⟩ | ⟨g1, g2⟩
    · rw [g1] at t1 r2
      rw [g2] at t2 r2
      have t1' := t1
      have t2' := t2
      simp only [Rep] at t1 t2
      obtain ⟨p, xs, rfl, h1, h2⟩ := t1
      obtain ⟨p', ys, rfl, h3, h4⟩ := t2
      exact ⟨p, p', xs, ys, rfl, .inl ⟨.of (r2.sub _ _ h1), .of (r2.sub _ _ h3), k _ _ [.lst d1, .lst d2] [.ref p, .ref p'] e1 S2 H1 r2 rfl good_zipL q⟩⟩
    · rw [g1] at t1 r2
      rw [g2] at t2 r2
      have t1' := t1
      have t2' := t2
      simp only [Rep] at t1 t2
      obtain ⟨p, xs, ob, rfl, h1, h0, h2⟩ := t1
      obtain ⟨p', ys, ob', rfl, h3, h0', h4⟩ := t2
      exact ⟨p, p', xs, ys, rfl, .inr ⟨tupQ r2.sub h1, tupQ r2.sub h3, k _ _ [.tup d1, .tup d2] [.ref p, .ref p'] e1 S2 H1 r2 rfl good_zipT q⟩⟩
def enumD : Nat → List D → List D
  | _, [] => []
  | n, x :: xs => .raw [.int (n : Int), x] :: enumD (n + 1) xs
theorem enumD_get : ∀ (n : Nat) (xs : List D) (i : Nat), (enumD n xs)[i]? = (xs[i]?).map fun x => .raw [.int ((n + i : Nat) : Int), x]
  | n, [], i => by simp [enumD]
  | n, x :: xs, 0 => by simp [enumD]
  | n, x :: xs, i + 1 => by
    simp only [enumD, List.getElem?_cons_succ, enumD_get (n + 1) xs i]
    rw [show n + 1 + i = n + (i + 1) by omega]
theorem enumD_len : ∀ (n : Nat) (xs : List D), (enumD n xs).length = xs.length
  | n, [] => rfl
  | n, x :: xs => by simp only [enumD, List.length_cons, enumD_len (n + 1) xs]
theorem good_enum {K : PySem.W.Frag} {d1 : List D} {a : Addr} : Good K (Ite K a) (enumD 0 d1) [.lst d1] [.ref a] := fun S H s h => by
  simp only [Reps, Rep] at h
  obtain ⟨v, r, e1, ⟨p, xs, e2, h1, h2⟩, e3⟩ := h
  obtain ⟨rfl, rfl⟩ := List.cons.inj e1
  obtain rfl := V.ref.inj e2
  have q1 : SqL K H a xs := .of (s _ _ h1)
  refine ⟨fun i hi => ⟨xs, q1, ?_⟩, fun i d hd => ?_⟩
  · rw [enumD_len] at hi
    rw [h2.len]
    omega
  · rw [enumD_get] at hd
    cases f1 : d1[i]? with
    | none =>
      rw [f1] at hd
      simp at hd
    | some x =>
      rw [f1] at hd
      simp only [Option.map_some, Option.some.injEq, Nat.zero_add] at hd
      subst hd
      obtain ⟨x', k1, k2⟩ := h2.get f1
      refine ⟨⟨xs, x', q1, k1⟩, fun z H' ⟨T, w1, ez, hT, eH, g1⟩ => .inr ⟨T, .tup [.int (i : Nat), w1], hT, eH, ?_⟩⟩
      have e1 := g1 xs q1
      rw [k1] at e1
      cases e1
      have sm : Same S (upd S T (.tup [.int (i : Nat), x'])) := Same.new (s.free hT)
      simp only [Rep, Reps]
      exact ⟨T, _, ez, upd_same, _, _, rfl, rfl, x', _, rfl, Rep.mono sm _ _ k2, rfl⟩
theorem wi_enum {ta : TA} {P : List D → Env → Prop} (h : WA c ta e fun os e1 => ∃ o1, os = [o1] ∧ nobx o1 = true ∧ ∃ d1, toD o1 = .lst d1 ∧ P (enumD 0 d1) e1) : WI c (iEnum c.K ta) e P := fun S H ts vs σ r R' k =>
  h S H ts vs σ r _ fun os us e1 S1 H1 r1 l ⟨o1, e2, n1, d1, hd, q⟩ => by
    subst e2
    obtain ⟨u, rfl⟩ := vals_one l
    obtain ⟨S2, s2, r2⟩ := R.freeze r1 n1
    have t1 := r2.top
    rw [hd] at t1 r2
    simp only [Rep] at t1
    obtain ⟨p, xs, rfl, h1, h2⟩ := t1
    exact ⟨p, xs, rfl, .of (r2.sub _ _ h1), k _ _ [.lst d1] [.ref p] e1 S2 H1 r2 rfl good_enum q⟩
/-- names that take the items of a tuple -/
def gNames : List Nat → TGs
  | [] => gNil
  | i :: is => gCons (gName i) (gNames is)
def setAll : List (Option O) → List Nat → List O → List (Option O)
  | sl, i :: is, o :: os => setAll (sl.set i (some o)) is os
  | sl, _, _ => sl
theorem names_run {S H : Hp} {ts : List O} {vs : List V} {Q' : St → Hp → Prop} (own : List Nat) : ∀ {is : List Nat} {os : List O} {us : List V} {e : Env} {σ : St}, R c S H (os ++ ts) (us ++ vs) e σ → us.length = os.length → os.length = is.length → (∀ i ∈ is, i ∈ own ∨ own = []) → (∀ i ∈ is, i ∉ c.fx) →
    (∀ σ', R c S H ts vs ⟨setAll e.sl is os, e.g⟩ σ' → (own ≠ [] → wipe σ' own = wipe σ own) → Q' σ' H) → gNames is us σ H Q'
  | [], [], us, e, σ, r, l, l2, ho, hf, k => by
    have e0 : us = [] := List.length_eq_zero_iff.mp l
    subst e0
    exact ⟨rfl, k σ r fun _ => rfl⟩
  | [], o :: os, us, e, σ, r, l, l2, ho, hf, k => by simp at l2
  | i :: is, [], us, e, σ, r, l, l2, ho, hf, k => by simp at l2
  | i :: is, o :: os, [], e, σ, r, l, l2, ho, hf, k => by simp at l
  | i :: is, o :: os, u :: us, e, σ, r, l, l2, ho, hf, k => by
    refine ⟨u, us, rfl, ?_⟩
    have r2 := R.put (i := i) r (hf i List.mem_cons_self)
    refine names_run own (os := os) r2 (by simpa using l) (by simpa using l2) (fun j hj => ho j (List.mem_cons_of_mem _ hj)) (fun j hj => hf j (List.mem_cons_of_mem _ hj)) fun σ' r3 w => k σ' r3 fun hw => ?_
    rw [w hw]
    exact wipe_set own σ i _ ((ho i List.mem_cons_self).resolve_right hw)
theorem ws_asgT {ta : TA} {is : List Nat} {n : Nat} {P : Post} (h : WA c ta e fun os e1 => os.length = is.length ∧ P.nx ⟨setAll e1.sl is os, e1.g⟩) (hn : is.length = n) (hs : n ≤ 1000) (hf : ∀ i ∈ is, i ∉ c.fx) : WS c (tAsg (tTup ta) (gTup c.K n (gNames is))) e P := fun S H ts vs σ rr D d1 d2 d3 d4 =>
  h S H ts vs σ rr _ fun os us e1 S1 H1 r1 l ⟨q1, q⟩ => ⟨sz (by omega), fun p hp => by
    obtain ⟨r2, s2⟩ := r1.share (u := .tup us) hp
    refine ⟨p, us, rfl, .of upd_same, by omega, ?_⟩
    exact names_run [] r2 l q1 (fun _ _ => .inr rfl) hf fun σ' r3 _ => d1 _ _ _ _ r3 q⟩
theorem wg_tup {is : List Nat} {n : Nat} {o : O} {G : Env → Prop} {ds : List D} (no : nobx o = true) (hd : toD o = .tup ds ∨ toD o = .raw ds) (h1 : ds.length = is.length) (hn : is.length = n) (hf : ∀ i ∈ is, i ∉ c.fx) (h : G ⟨setAll e.sl is (ds.map O.sh), e.g⟩) : WG c (gTup c.K n (gNames is)) o e G := fun S H ts vs v σ rr Q' k => by
  obtain ⟨S2, s2, t, r2⟩ := R.freeze1 rr no
  have t' : ∃ p xs, v = .ref p ∧ SqT c.K H p xs ∧ Reps c.K S2 ds xs := by
    rcases hd with hd | hd
    · rw [hd] at t
      simp only [Rep] at t
      obtain ⟨p, xs, ob, rfl, h2, h0, h3⟩ := t
      exact ⟨p, xs, rfl, tupQ r2.sub h2, h3⟩
    · rw [hd] at t
      simp only [Rep] at t
      obtain ⟨p, xs, rfl, h2, h3⟩ := t
      exact ⟨p, xs, rfl, .of (r2.sub _ _ h2), h3⟩
  obtain ⟨p, xs, rfl, h2, h3⟩ := t'
  refine ⟨p, xs, rfl, h2, by rw [h3.len]; omega, ?_⟩
  exact names_run [] (r2.pushes h3) (by rw [h3.len, List.length_map]) (by rw [List.length_map, h1]) (fun _ _ => .inr rfl) hf fun σ' r3 _ => k _ _ _ _ r3 h
theorem wgw_tup {own is : List Nat} {n : Nat} {o : O} {G : Env → Prop} {ds : List D} (ho : ∀ i ∈ is, i ∈ own) (hne : own ≠ []) (no : nobx o = true) (hd : toD o = .tup ds ∨ toD o = .raw ds) (h1 : ds.length = is.length) (hn : is.length = n) (hf : ∀ i ∈ is, i ∉ c.fx) (h : G ⟨setAll e.sl is (ds.map O.sh), e.g⟩) : WGW c own (gTup c.K n (gNames is)) o e G := fun S H ts vs v σ rr Q' k => by
  obtain ⟨S2, s2, t, r2⟩ := R.freeze1 rr no
  have t' : ∃ p xs, v = .ref p ∧ SqT c.K H p xs ∧ Reps c.K S2 ds xs := by
    rcases hd with hd | hd
    · rw [hd] at t
      simp only [Rep] at t
      obtain ⟨p, xs, ob, rfl, h2, h0, h3⟩ := t
      exact ⟨p, xs, rfl, tupQ r2.sub h2, h3⟩
    · rw [hd] at t
      simp only [Rep] at t
      obtain ⟨p, xs, rfl, h2, h3⟩ := t
      exact ⟨p, xs, rfl, .of (r2.sub _ _ h2), h3⟩
  obtain ⟨p, xs, rfl, h2, h3⟩ := t'
  refine ⟨p, xs, rfl, h2, by rw [h3.len]; omega, ?_⟩
  exact names_run own (r2.pushes h3) (by rw [h3.len, List.length_map]) (by rw [List.length_map, h1]) (fun i hi => .inl (ho i hi)) hf fun σ' r3 w => k _ _ _ _ r3 (w hne) h
theorem ws_par {ta : TA} {i j : Nat} {P : Post} (hi : i ∉ c.fx) (hj : j ∉ c.fx) (h : WA c ta e fun os e1 => os.length = 2 ∧ P.nx ⟨setAll e1.sl [i, j] os, e1.g⟩) : WS c (tPar i j ta) e P := fun S H ts vs σ rr D d1 d2 d3 d4 =>
  h S H ts vs σ rr _ fun os us e1 S1 H1 r1 l ⟨q1, q⟩ => by
    obtain ⟨u, w, rfl⟩ := vals_two (us := us) (by omega)
    match os, q1 with
    | [o1, o2], _ => exact ⟨u, w, rfl, d1 _ _ _ _ (R.put (i := j) (R.put (i := i) r1 hi) hj) q⟩
theorem ws_par3 {ta : TA} {i j k : Nat} {P : Post} (hi : i ∉ c.fx) (hj : j ∉ c.fx) (hk : k ∉ c.fx) (h : WA c ta e fun os e1 => os.length = 3 ∧ P.nx ⟨setAll e1.sl [i, j, k] os, e1.g⟩) : WS c (tPar3 i j k ta) e P := fun S H ts vs σ rr D d1 d2 d3 d4 =>
  h S H ts vs σ rr _ fun os us e1 S1 H1 r1 l ⟨q1, q⟩ => by
    obtain ⟨o1, o2, o3, rfl⟩ : ∃ o1 o2 o3, os = [o1, o2, o3] := by
      match os, q1 with
      | [a, b, c], _ => exact ⟨a, b, c, rfl⟩
    obtain ⟨u, w, z, rfl⟩ : ∃ u w z, us = [u, w, z] := by
      match us, l with
      | [a, b, c], _ => exact ⟨a, b, c, rfl⟩
    exact ⟨u, w, z, rfl, d1 _ _ _ _ (R.put (i := k) (R.put (i := j) (R.put (i := i) r1 hi) hj) hk) q⟩
/-! ### keyword calls: the arguments in the def's order by a list of places -/
def pickL {α : Type} (is : List Nat) (xs : List α) : List α := is.filterMap fun i => xs[i]?
end
end TX
end

section
/-! The promise of a def where nothing that is shown (repr) is under way: for calls of repr. -/
namespace TX
open PySem PySem.Spec PyProof.Rows L2
structure FnG (P : Program) (w : World) (K : PySem.W.Frag) (mg : Str → Option Value) (base : Heap) (CX : CXT) (k : Nat) (f : Addr) (fd : FuncData) (ps : List Str) (sp : Sp) : Prop where
  len : ∀ us H Q E, sp us H Q E → us.length = ps.length
  run : ∀ (A : Around) (out : List PySem.Env) (s : Shared) (H : Hp) (args : Args) (us : List Value) (xs : List V) (Q : VK) (E : XK), A.guards = some [] → Room k A → Env0 P w K mg base A out s H → BindsTo s fd args (ps.zip us) → Vals xs us → sp xs H Q E →
    codeAny (model P w) A (.call (.ref f) args) (CR CX out P w H s Q E) s
section
variable {P : Program} {w : World} {K : PySem.W.Frag} {mg : Str → Option Value} {base : Heap} {CX : CXT} {j k : Nat} {f : Addr} {fd : FuncData} {ps : List Str} {sp sp' : Sp}
theorem FnG.of (F : FnOk P w K mg base CX k f fd ps sp) : FnG P w K mg base CX k f fd ps sp := ⟨F.len, fun A out s H args us xs Q E _ hr he hb hv hs => F.run A out s H args us xs Q E hr he hb hv hs⟩
theorem FnG.mono (F : FnG P w K mg base CX j f fd ps sp) (h : j ≤ k) : FnG P w K mg base CX k f fd ps sp := ⟨F.len, fun A out s H args us xs Q E hg hr => F.run A out s H args us xs Q E hg (hr.mono h)⟩
theorem FnG.imp (F : FnG P w K mg base CX k f fd ps sp) (h : ∀ xs H Q E, sp' xs H Q E → sp xs H Q E) : FnG P w K mg base CX k f fd ps sp' :=
  ⟨fun xs H Q E q => F.len _ _ _ _ (h _ _ _ _ q), fun A out s H args us xs Q E hg hr he hb hv hs => F.run A out s H args us xs Q E hg hr he hb hv (h _ _ _ _ hs)⟩
end
section
variable {X : Cx} {CX : CXT} {k : Nat} {f : Addr} {fd : FuncData} {ps ks : List Str} {sp : Sp} {dvs : List V} {ds : List Value} {E : XK} {x : Str} {p pos : Pos} {e : Expr} {es : List Expr} {kws : List Keyword} {t tk : TA}
theorem run_fnG {pins : List (Addr × Obj)} {σ : L2.St} {H : Hp} {s : Shared} {Q : VK} {us : List Value} {vs : List V} (F : FnG X.prog X.w X.K X.mg X.base CX k f fd ps sp) (hgd : X.A.guards = some []) (hr : Room k X.A) (hb : Binds X.K fd ps ds) (hd : Vals dvs ds) (hx : Passes CX X E)
    (I : Inv X pins σ H s) (r : Vals vs us) (h : sp (vs ++ dvs) H Q E) : wpAny (model X.prog X.w) X.A (call (.ref f) us) (EP X pins σ Q) X.xe s := by
  have both := r.append hd
  have ll : (us ++ ds).length = ps.length := by
    rw [← both.length]
    exact F.len _ _ _ _ h
  refine wpAny_call (codeAny_mono (F.run X.A X.stack s H ⟨us, []⟩ _ _ Q E hgd hr I.env0 (hb s us I.kIn ll) both h) fun res s2 hq => ?_)
  match res, hq with
  | .error err, hq => exact hx pins σ H s err s2 I hq
  | .ok (.ret u), hq => exact I.after hq
theorem pe_callG (F : FnG X.prog X.w X.K X.mg X.base CX k f fd ps sp) (hgd : X.A.guards = some []) (hr : Room k X.A) (hg : Gl X x) (hm : X.mg x = some (.ref f)) (hk : PySem.W.keepIn X.K (.ref f) = true) (hb : Binds X.K fd ps ds) (hd : Vals dvs ds) (hx : Passes CX X E)
    (ha : PA X (e :: es) t) (hdb : (x == ("__debug__" : Str)) = false := by decide) (he : starEach (e :: es) X.env = (false, eval e X.env) :: starEach es X.env := by rfl) (hpl : (backTo pos (starEach es X.env)).any (·.1) = false := by rfl) :
    PE X (.Call (.Name x p) (e :: es) [] pos) (tCall sp dvs E t) := by
  constructor
  intro pins s σ H Q I h
  refine wpAny_Call_Name_kw (ld_glob I hg hm (PySem.W.callWith_K (h₀ := X.base) I.ok.mod.kin hk (thn (ha.run pos pins s σ H _ I h) fun us s1 ⟨vs, H1, I1, r, q⟩ => ⟨I1.kIn, ?_⟩) he hpl) hdb)
  exact run_fnG F hgd hr hb hd hx I1 r q
theorem pe_callG0 (F : FnG X.prog X.w X.K X.mg X.base CX k f fd ps sp) (hgd : X.A.guards = some []) (hr : Room k X.A) (hg : Gl X x) (hm : X.mg x = some (.ref f)) (hk : PySem.W.keepIn X.K (.ref f) = true) (hb : Binds X.K fd ps ds) (hd : Vals dvs ds) (hx : Passes CX X E)
    (hdb : (x == ("__debug__" : Str)) = false := by decide) : PE X (.Call (.Name x p) [] [] pos) (tCall sp dvs E tNil) := by
  constructor
  intro pins s σ H Q I h
  exact wpAny_Call_Name_kw (ld_glob I hg hm (PySem.W.callWith_K0 I.kIn hk (run_fnG (us := []) F hgd hr hb hd hx I .nil h)) hdb)
variable {g : List Value → List Value → List Value} {gV : List V → List V → List V}
theorem run_fnGk {pins : List (Addr × Obj)} {σ : L2.St} {H : Hp} {s : Shared} {Q : VK} {us ws : List Value} {vs zs : List V} (F : FnG X.prog X.w X.K X.mg X.base CX k f fd ps sp) (hgd : X.A.guards = some []) (hr : Room k X.A) (hb : KBinds X.K fd ps ks g gV) (hx : Passes CX X E)
    (I : Inv X pins σ H s) (r : Vals vs us) (rz : Vals zs ws) (h : sp (gV vs zs) H Q E) : wpAny (model X.prog X.w) X.A (call (.ref f) us (ks.zip ws)) (EP X pins σ Q) X.xe s := by
  have both := hb.rel r rz
  have ll : (g us ws).length = ps.length := by
    rw [← both.length]
    exact F.len _ _ _ _ h
  refine wpAny_call (codeAny_mono (F.run X.A X.stack s H ⟨us, ks.zip ws⟩ _ _ Q E hgd hr I.env0 (hb.to s us ws I.kIn ll) both h) fun res s2 hq => ?_)
  match res, hq with
  | .error err, hq => exact hx pins σ H s err s2 I hq
  | .ok (.ret u), hq => exact I.after hq
theorem pe_callGk (F : FnG X.prog X.w X.K X.mg X.base CX k f fd ps sp) (hgd : X.A.guards = some []) (hr : Room k X.A) (hg : Gl X x) (hm : X.mg x = some (.ref f)) (hk : PySem.W.keepIn X.K (.ref f) = true) (hb : KBinds X.K fd ps ks g gV) (hx : Passes CX X E)
    (ha : PA X (e :: es) t) (hkw : PK X kws tk) (hall : (backToKw pos (keywordEach kws X.env)).all (·.1.isSome) = true := by rfl) (hks : (backToKw pos (keywordEach kws X.env)).filterMap (·.1) = ks := by rfl)
    (hdb : (x == ("__debug__" : Str)) = false := by decide) (he : starEach (e :: es) X.env = (false, eval e X.env) :: starEach es X.env := by rfl)
    (hpl : ((backTo pos (starEach (e :: es) X.env)).any (·.1) || (backToKw pos (keywordEach kws X.env)).any (·.1.isNone)) = false := by rfl) : PE X (.Call (.Name x p) (e :: es) kws pos) (tCallK sp gV E t tk) := by
  constructor
  intro pins s σ H Q I h
  refine wpAny_Call_Name_kw (ld_glob I hg hm (PySem.W.callWith_KW (h₀ := X.base) I.ok.mod.kin hk hall (thn (ha.run pos pins s σ H _ I h) fun us s1 ⟨vs, H1, I1, r, q⟩ => ?_) hpl he) hdb)
  refine thn (hkw.run pos pins s1 σ H1 _ I1 q) fun ws s2 ⟨zs, H2, I2, rz, q2⟩ => ⟨I2.kIn, ?_⟩
  rw [hks]
  exact run_fnGk F hgd hr hb hx I2 r rz q2
theorem pe_callGk0 (F : FnG X.prog X.w X.K X.mg X.base CX k f fd ps sp) (hgd : X.A.guards = some []) (hr : Room k X.A) (hg : Gl X x) (hm : X.mg x = some (.ref f)) (hk : PySem.W.keepIn X.K (.ref f) = true) (hb : KBinds X.K fd ps ks g gV) (hx : Passes CX X E)
    (hkw : PK X kws tk) (hall : (backToKw pos (keywordEach kws X.env)).all (·.1.isSome) = true := by rfl) (hks : (backToKw pos (keywordEach kws X.env)).filterMap (·.1) = ks := by rfl)
    (hdb : (x == ("__debug__" : Str)) = false := by decide)
    (hpl : ((backTo pos (starEach [] X.env)).any (·.1) || (backToKw pos (keywordEach kws X.env)).any (·.1.isNone)) = false := by rfl) : PE X (.Call (.Name x p) [] kws pos) (tCallK sp gV E tNil tk) := by
  constructor
  intro pins s σ H Q I h
  refine wpAny_Call_Name_kw (ld_glob I hg hm (PySem.W.callWith_KW0 (h₀ := X.base) I.ok.mod.kin hk hall ?_ hpl) hdb)
  refine thn (hkw.run pos pins s σ H _ I h) fun ws s2 ⟨zs, H2, I2, rz, q2⟩ => ⟨I2.kIn, ?_⟩
  rw [hks]
  exact run_fnGk (us := []) F hgd hr hb hx I2 .nil rz q2
/-- how keywords bind: the places, among the values as they are written, of the parameters' values -/
theorem pick_vals : ∀ {is : List Nat} {xs : List V} {us : List Value}, Vals xs us → Vals (pickL is xs) (pickL is us)
  | [], xs, us, r => .nil
  | i :: is, xs, us, r => by
    unfold pickL
    rw [List.filterMap_cons, List.filterMap_cons]
    cases h : xs[i]? with
    | none =>
      rw [r.none_of h]
      exact pick_vals r
    | some x =>
      obtain ⟨u, h1, h2⟩ := r.get h
      rw [h1]
      exact .cons h2 (pick_vals r)
def gK {α : Type} (n m : Nat) (is : List Nat) (us ws : List α) : List α := if us.length = n ∧ ws.length = m then pickL is (us ++ ws) else []
theorem kbinds {K : PySem.W.Frag} {fd : FuncData} {ps ks : List Str} (n m : Nat) (is : List Nat) (hp : ps ≠ []) (h : ∀ us ws : List Value, us.length = n → ws.length = m → bindArgs fd ⟨us, ks.zip ws⟩ = pure (ps.zip (pickL is (us ++ ws)))) : KBinds K fd ps ks (gK n m is) (gK n m is) where
  to := fun s us ws _ hl => by
    unfold gK at hl ⊢
    by_cases c : us.length = n ∧ ws.length = m
    · rw [if_pos c]
      exact .of_eq (h us ws c.1 c.2)
    · rw [if_neg c] at hl
      exact absurd (List.length_eq_zero_iff.mp hl.symm) hp
  rel := fun {vs us zs ws} r rz => by
    unfold gK
    rw [r.length, rz.length]
    by_cases c : us.length = n ∧ ws.length = m
    · rw [if_pos c, if_pos c]
      exact pick_vals (r.append rz)
    · rw [if_neg c, if_neg c]
      exact .nil
end
/-! ### a def by its body -/
section
variable {CX : CXT} {P : Program} {w : World} {K : PySem.W.Frag} {mg : Str → Option Value} {base : Heap} {k : Nat} {f : Addr}
theorem fn_ofG {name qual : Str} {params : Arguments} {body : List Stmt} {scope : Scope} {dV kV doc pm cdv ct oc : Value} {an od : Option Addr} {osl : Array (Option Value)} {N ps : List Str} {sp : Sp}
    (lk : K.lookup f = some ⟨oc, od, .func (PySem.W.fnOf name qual params body scope dV kV doc pm an cdv ct), osl⟩) (hcd : PySem.W.codeIn K cdv qual = true) (S : FnScope N ps scope) (len : ∀ vs H Q E, sp vs H Q E → vs.length = ps.length)
    (hbody : ∀ (A : Around) (out : List PySem.Env) (s : Shared) (H : Hp) (vs : List V) (Q : VK) (E : XK), (A.deeper (envOfC qual scope s.heap.objs.size f cdv)).guards = some [] → Room k (A.deeper (envOfC qual scope s.heap.objs.size f cdv)) → sp vs H Q E →
      ∃ t, PSs (cxOf CX P w K mg base N qual scope f cdv A out s H E) body t ∧ t { nx := fun _ H' => Q .non H', rt := Q } (L2.start N vs) H) : FnG P w K mg base CX (k + 1) f (PySem.W.fnOf name qual params body scope dV kV doc pm an cdv ct) ps sp := by
  refine ⟨len, ?_⟩
  intro A out s H args us vs Q E hgd hr e0 hb r hsp
  have inK : K.In s.heap := e0.mod.kin.keeps fun b o eb => (e0.bs b o eb).1
  have nol : s.heap.NoLimit := e0.mod.nolimit.keeps fun b o eb => (e0.bs b o eb).1
  have kinds : ∀ y ∈ ps.zip us, scope.names.lookup y.1 = some .local ∨ (scope.names.lookup y.1 = some .cell ∧ ((cellsFrom (s.heap.objs.size + 1) scope.names []).lookup y.1).isSome = true) := by
    rintro ⟨n, v⟩ hy
    exact (S.par n (List.of_mem_zip hy).1).elim .inl fun q => .inr ⟨q, PySem.W.cellsFrom_some _ _ _ (.inl q)⟩
  refine codeAny_call_function hr.depth (inK _ _ lk) rfl S.co S.gen rfl (PySem.W.codeRec_of inK hcd) (hb _ _ _ _ (wpAny_newFunctionEnv_cells S.kind kinds fun env he s1 x => ?_))
  subst he
  refine ⟨nol.keeps x.toInCall.keep, codeAny_func ?_⟩
  obtain ⟨t, ht, hq⟩ := hbody A out s H vs Q E hgd (hr.deeper _) hsp
  have I0 := inv_start (CX := CX) (E := E) S hr.hd e0 (len _ _ _ _ hsp) r x
  have done : ∀ {σ2 : L2.St} {H2 : Hp} {s2 : Shared} {v : V} {u : Value}, Inv (cxOf CX P w K mg base N qual scope f cdv A out s H E) [] σ2 H2 s2 → RelV v u → Q v H2 → CE out P w H s Q u s2 := fun {σ2 H2 s2 v u} J rv q => ⟨v, H2, J.os, J.bare, J.base, J.hok, rv, q⟩
  refine wpAny_mono (ht.run [] s1 _ H _ I0 hq) (fun fl s2 hs => ?_) fun _ _ z => z
  match fl, hs with
  | .ret u, ⟨v, σ2, H2, J, rv, q⟩ => exact done J rv q
  | .next, ⟨σ2, H2, J, q⟩ => exact done (v := V.non) (u := Value.none) J rfl q
  | .brk, ⟨_, _, _, q⟩ => exact q.elim
  | .cont, ⟨_, _, _, q⟩ => exact q.elim
theorem okG {x qual : Str} {st : Stmt} {fd : FuncData} {N ps : List Str} {C : Con} (F : Fun K x qual st f fd) (S : FnScope N ps (defScope st)) (hn : C.n = ps.length) (hfx : ∀ i ∈ C.fx, i < C.n)
    (hbody : ∀ (cdv : Value) (A : Around) (out : List PySem.Env) (s : Shared) (H : Hp) (E : XK), (A.deeper (envOfC qual (defScope st) s.heap.objs.size f cdv)).guards = some [] → Room k (A.deeper (envOfC qual (defScope st) s.heap.objs.size f cdv)) →
      ∃ t, PSs (cxOf CX0 P w K mg base N qual (defScope st) f cdv A out s H E).nox (defBody st) t ∧ ∀ (c : Ct) (os : List O), c.K = K → c.fx = C.fx → os.length = C.n → (∃ o ls, C.run os = .ok o ls) →
        WS c t ⟨os.map some ++ List.replicate (N.length - C.n) none, 0⟩ ⟨fun e => endOf C (.sh .non) e.sl (C.run os), fun o e => endOf C o e.sl (C.run os), fun _ => False, fun _ => False⟩) :
    FnG P w K mg base CX0 (k + 1) f fd ps (spT K C) := by
  obtain ⟨oc, od, kV, doc, pm, an, cdv, ct, osl, rfl, lk, hcd⟩ := F.ex
  refine fn_ofG lk hcd S (fun vs H Q E h => by rw [spT_len h, hn]) fun A out s H vs Q E hgd hr hsp => ?_
  obtain ⟨t, h, q⟩ := hbody cdv A out s H E hgd hr
  exact ⟨t, h.nox, fn_tw hsp hfx q⟩
end
/-! ### calls with keywords, over trees -/
section
variable {c : Ct} {e : Env} {Q : O → Env → Prop}
theorem reps_pick {K : PySem.W.Frag} {S : Hp} {ds : List D} {us : List V} (h : Reps K S ds us) : ∀ is : List Nat, Reps K S (pickL is ds) (pickL is us)
  | [] => by simp [pickL, Reps]
  | i :: is => by
    have ih := reps_pick h is
    unfold pickL at ih ⊢
    rw [List.filterMap_cons, List.filterMap_cons]
    cases q : ds[i]? with
    | none =>
      rw [List.getElem?_eq_none (by rw [h.len]; exact List.getElem?_eq_none_iff.mp q)]
      exact ih
    | some d =>
      obtain ⟨y, k1, k2⟩ := Reps.get h q
      rw [k1]
      simp only [Reps]
      exact ⟨y, _, rfl, k2, ih⟩
theorem mix_vals (σ : L2.St) : ∀ {ds : List D} {us : List V}, us.length = ds.length → Mix σ (ds.map Ar.v) us us
  | [], us, l => by
    have e : us = [] := List.length_eq_zero_iff.mp l
    subst e
    exact ⟨rfl, rfl⟩
  | d :: ds, u :: us, l => ⟨u, us, us, rfl, rfl, mix_vals σ (by simpa using l)⟩
theorem vals_map : ∀ ds : List D, valsA (ds.map Ar.v) = ds
  | [] => rfl
  | d :: ds => by simp only [List.map_cons, valsA, vals_map ds]
theorem pos_map : ∀ (ds : List D) (n : Nat), posA (ds.map Ar.v) n = []
  | [], _ => rfl
  | d :: ds, n => by simp only [List.map_cons, posA, pos_map ds]
theorem we_callK {C : Con} {n m : Nat} {is : List Nat} {E : XK} {t tk : TA} (h : WA c t e fun os1 e1 => WA c tk e1 fun os2 e2 => os1.length = n ∧ os2.length = m ∧ (pickL is (toDs os1 ++ toDs os2)).length = C.n ∧ C.fx = [] ∧ (runA C ((pickL is (toDs os1 ++ toDs os2)).map Ar.v) e2.sl).holds fun o s => Q o ⟨s, e2.g⟩) :
    WE c (tCallK (spT c.K C) (gK n m is) E t tk) e Q := fun S H ts vs σ rr Q' k => h S H ts vs σ rr _ fun os1 us1 e1 S1 H1 r1 l1 q1 => q1 S1 H1 _ _ σ r1 _ fun os2 us2 e2 S2 H2 r2 l2 ⟨n1, n2, n3, a1, q⟩ => by
  obtain ⟨S3, s3, r3⟩ := r2.freezes l2 (nobxs_all _)
  have h2 := r3.sh_all (by rw [l2, toDs_len0])
  have r4 := r3.pops (by rw [l2, List.length_map, toDs_len0])
  obtain ⟨S5, s5, r5⟩ := r4.freezes l1 (nobxs_all _)
  have h1 := r5.sh_all (by rw [l1, toDs_len0])
  have r6 := r5.pops (by rw [l1, List.length_map, toDs_len0])
  have h3 := reps_pick (Reps.app h1 (Reps.mono s5 _ _ h2)) is
  have e1' : gK n m is us1 us2 = pickL is (us1 ++ us2) := by
    unfold gK
    rw [if_pos ⟨by rw [l1, n1], by rw [l2, n2]⟩]
  rw [e1']
  exact call_by (as := (pickL is (toDs os1 ++ toDs os2)).map Ar.v) (by rw [vals_map]; exact r6.pushes h3) (by rw [vals_map, h3.len]) (mix_vals σ h3.len) (by rw [List.length_map, n3]) (by rw [pos_map, a1]) q k
end
end TX
end

section
/-! More operations by values: max of pairs, repr, set(xs), slices with a step, index of lists and tuples. -/
namespace TX
open PySem PySem.Spec PyProof.Rows L2

/-! ### max where the comparison reads the heap -/
def CmpAt (prog : Program) (w : World) (A : Around) (Kp : Heap → Prop) (P : Nat → Value → Prop) (bt : Nat → Nat → Bool) : Prop :=
  ∀ i j vi vj (s : Shared) (Q E : Value → Shared → Prop), Kp s.heap → P i vi → P j vj → Q (.bool (bt i j)) s → wpAny (model prog w) A (richCompare .Gt vi vj) Q E s
section
variable {prog : Program} {w : World} {A : Around} {R : Result → Shared → Prop} {I : Addr} {fp wr : List Addr} {n : Nat} {P : Nat → Value → Prop} {St : Nat → Heap → Prop} {Kp : Heap → Prop}
theorem max_turns (W : Walks prog w A.in1 I fp wr n P St) (bt : Nat → Nat → Bool) (cmp : CmpAt prog w A.in1 Kp P bt) (Z : Addr) (hZ : Z ∉ fp) (stab : ∀ h h', Kp h → (∀ b o, b ∉ wr → b ≠ Z → h.get? b = some o → h'.get? b = some o) → Kp h') :
    ∀ (k j : Nat) (s : Shared) (vb : Value) (d : Nat), n - (j + 1) = k → j + 1 ≤ n → St (j + 1) s.heap → Kp s.heap → P (argBest bt j) vb → s.heap.get? Z = some { cls := .type "list", dict := none, data := .seq #[vb, vb] d, slots := #[] } →
    (∀ v h' tk, P (argBest bt (n - 1)) v → (∀ b o, b ∉ wr → b ≠ Z → s.heap.get? b = some o → h'.get? b = some o) → R (.ok (.ret v)) { s with heap := h', toks := tk }) → codeAny (model prog w) A (.builtin "max.loop" ⟨[.ref I, .none, .ref Z], []⟩) R s := by
  have zw : Z ∉ wr := fun h => hZ (W.sub _ h)
  have nm : (toString "max" ++ toString ".loop" : String) = "max.loop" := by decide
  intro k
  induction k with
  | zero =>
    intro j s vb d hk hj hst hKp hPb hS hR
    obtain hin : j + 1 = n := by omega
    refine codeAny_builtin F.entry_max_loop ?_
    rw [Around.under_plainId F.plain_max_loop _]
    show wpAny _ A.in1 (seqItems? (.ref Z) >>= _) _ _ s
    refine wpAny_bind (wpAny_seqItems hS rfl ?_)
    show wpAny _ A.in1 (tryCatch (pyNext (.ref I)) _ >>= _) _ _ s
    refine wpAny_bind (wpAny_tryCatch (W.done s _ _ (hin ▸ hst) fun h' tk hk' => ?_))
    have hS2 := hk' Z _ zw hS
    show wpAny _ A.in1 (updateSeq Z (fun _ => #[]) >>= _) _ _ _
    refine wpAny_bind (wpAny_updateSeq hS2 rfl (wpAny_bind (wpAny_letGo (wpAny_pure ?_))))
    exact hR vb _ tk (by rw [← hin]; exact hPb) fun b o nb nz eb => (Heap.get?_update_other _ _ (Ne.symm nz)).trans (hk' b o nb eb)
  | succ k ih =>
    intro j s vb d hk hj hst hKp hPb hS hR
    obtain hlt : j + 1 < n := by omega
    refine codeAny_builtin F.entry_max_loop ?_
    rw [Around.under_plainId F.plain_max_loop _]
    show wpAny _ A.in1 (seqItems? (.ref Z) >>= _) _ _ s
    refine wpAny_bind (wpAny_seqItems hS rfl ?_)
    show wpAny _ A.in1 (tryCatch (pyNext (.ref I)) _ >>= _) _ _ s
    refine wpAny_bind (wpAny_tryCatch (W.item (j + 1) s _ _ hlt hst fun v h' tk hP hst2 hk' => ?_))
    have hS2 := hk' Z _ zw hS
    have hKp2 := stab _ _ hKp fun b o nb _ eb => hk' b o nb eb
    show wpAny _ A.in1 (tryCatch (holding [v, v] (richCompare .Gt v vb >>= _)) _ >>= _) _ _ _
    refine wpAny_bind (wpAny_tryCatch (wpAny_holding (wpAny_bind (cmp (j + 1) (argBest bt j) v vb _ _ _ hKp2 hP hPb ?_))))
    refine wpAny_bind (wpAny_holding (wpAny_truthy_bool (wpAny_bind (wpAny_letGo (wpAny_pure ?_)))))
    by_cases hb : bt (j + 1) (argBest bt j) = true
    · simp only [hb, if_true]
      refine wpAny_bind (wpAny_updateSeq hS2 rfl (wpAny_bind (wpAny_letGo ?_)))
      rw [nm]
      have keepZ : ∀ b o, b ≠ Z → h'.get? b = some o → (h'.update Z (Obj.mapSeq fun _ => #[v, v])).get? b = some o := fun b o nz eb => (Heap.get?_update_other _ _ (Ne.symm nz)).trans eb
      refine wpAny_pure ⟨plainId_quiet F.plain_max_loop _, ih (j + 1) _ v _ (by omega) hlt (W.frame _ _ _ hst2 fun b hbf o eb => ?_) (stab _ _ hKp2 fun b o _ nz eb => ?_) (by simp only [argBest, hb, if_true]; exact hP) (Heap.get?_update_self _ hS2 rfl) fun v2 h2 tk2 hP2 hk2 => ?_⟩
      · exact (Heap.get?_update_other _ _ (fun z : Z = b => hZ (by rw [z]; exact hbf))).trans eb
      · exact (Heap.get?_update_other _ _ (Ne.symm nz)).trans eb
      · exact hR v2 h2 tk2 hP2 fun b o nb nz eb => hk2 b o nb nz ((Heap.get?_update_other _ _ (Ne.symm nz)).trans (hk' b o nb eb))
    · have hb : bt (j + 1) (argBest bt j) = false := by simpa using hb
      simp only [hb, Bool.false_eq_true, if_false]
      refine wpAny_bind (wpAny_letGo ?_)
      rw [nm]
      refine wpAny_pure ⟨plainId_quiet F.plain_max_loop _, ih (j + 1) _ vb d (by omega) hlt hst2 hKp2 (by simp only [argBest, hb, Bool.false_eq_true, if_false]; exact hPb) hS2 fun v2 h2 tk2 hP2 hk2 => ?_⟩
      exact hR v2 h2 tk2 hP2 fun b o nb nz eb => hk2 b o nb nz (hk' b o nb eb)
end
section
variable {prog : Program} {w : World} {A : Around} {E : Value → Shared → Prop} {s : Shared}
theorem max_at {x : Value} {Q : Value → Shared → Prop}
    (h : wpAny (model prog w) A.in1 (pyIter x) (fun it s2 => ∃ I fp wr n P St bt Kp, it = .ref I ∧ Walks prog w A.in1 I fp wr n P St ∧ St 0 s2.heap ∧ (∀ b ∈ fp, b < s2.heap.objs.size) ∧ 0 < n ∧ CmpAt prog w A.in1 Kp P bt ∧ Kp s2.heap ∧
      (∀ Z, s2.heap.objs.size ≤ Z → ∀ h h', Kp h → (∀ b o, b ∉ wr → b ≠ Z → h.get? b = some o → h'.get? b = some o) → Kp h') ∧
      ∀ v h' tk, P (argBest bt (n - 1)) v → (∀ b o, b ∉ wr → s2.heap.get? b = some o → h'.get? b = some o) → Q v { s2 with heap := h', toks := tk }) E s) : wpAny (model prog w) A (call (.builtin "max") [x]) Q E s := by
  have nm : (toString "max" ++ toString ".loop" : String) = "max.loop" := by decide
  refine call_function_tree F.kind_max F.plain_max F.entry_max (F.args_max1 _) ?_
  show wpAny _ A.in1 (Builtin.Builtins.bindParams "max" ["key", "default"] 0 ⟨[], []⟩ >>= _) _ _ s
  refine wpAny_bind (wpAny_of_eq (show Builtin.Builtins.bindParams "max" ["key", "default"] 0 ⟨[], []⟩ = pure [none, none] from rfl) (wpAny_bind (wpAny_pure ?_)))
  refine wpAny_bind (wpAny_mono h (fun it s2 q => ?_) fun _ _ z => z)
  obtain ⟨I, fp, wr, n, P, St, bt, Kp, rfl, W, hst, hfp, hn, cmp, hKp, stab, hQ⟩ := q
  refine wpAny_bind (wpAny_newObj_type ?_)
  have zf : s2.heap.objs.size ∉ fp := fun hm => Nat.lt_irrefl _ (hfp _ hm)
  have zw : s2.heap.objs.size ∉ wr := fun hm => zf (W.sub _ hm)
  rw [nm]
  refine wpAny_pure ⟨plainId_quiet F.plain_max_loop _, ?_⟩
  have hst2 : St 0 (s2.heap.push { cls := .type "list", data := .seq #[] }) := W.frame _ _ _ hst fun b _ o eb => Heap.get?_push_of_some _ eb
  have hS : (s2.heap.push { cls := .type "list", data := .seq #[] }).get? s2.heap.objs.size = some { cls := .type "list", data := .seq #[] } := Heap.get?_push_size _ rfl
  have stab1 := stab s2.heap.objs.size (Nat.le_refl _)
  have hKp1 : Kp (s2.heap.push { cls := .type "list", data := .seq #[] }) := stab1 _ _ hKp fun b o _ _ eb => Heap.get?_push_of_some _ eb
  refine codeAny_builtin F.entry_max_loop ?_
  rw [Around.under_plainId F.plain_max_loop _]
  show wpAny _ A.in1 (seqItems? (.ref s2.heap.objs.size) >>= _) _ _ _
  refine wpAny_bind (wpAny_seqItems hS rfl ?_)
  show wpAny _ A.in1 (tryCatch (pyNext (.ref I)) _ >>= _) _ _ _
  refine wpAny_bind (wpAny_tryCatch (W.item 0 _ _ _ hn hst2 fun v h1 tk hP hst3 hk1 => ?_))
  have hS2 := hk1 _ _ zw hS
  have hKp2 := stab1 _ _ hKp1 fun b o nb _ eb => hk1 b o nb eb
  show wpAny _ A.in1 (updateSeq s2.heap.objs.size (fun _ => #[v, v]) >>= _) _ _ _
  refine wpAny_bind (wpAny_updateSeq hS2 rfl ?_)
  rw [nm]
  refine wpAny_pure ⟨plainId_quiet F.plain_max_loop _, max_turns W bt cmp s2.heap.objs.size zf stab1 _ 0 _ v _ rfl hn (W.frame _ _ _ hst3 fun b hbf o eb => ?_) (stab1 _ _ hKp2 fun b o _ nz eb => ?_) hP (Heap.get?_update_self _ hS2 rfl) fun v2 h2 tk2 hP2 hk2 => ?_⟩
  · exact (Heap.get?_update_other _ _ (fun z : s2.heap.objs.size = b => zf (by rw [z]; exact hbf))).trans eb
  · exact (Heap.get?_update_other _ _ (Ne.symm nz)).trans eb
  · refine hQ v2 h2 tk2 hP2 fun b o nb eb => ?_
    have nz : b ≠ s2.heap.objs.size := Nat.ne_of_lt (Heap.lt_size eb)
    exact hk2 b o nb nz ((Heap.get?_update_other _ _ (Ne.symm nz)).trans (hk1 b o nb (Heap.get?_push_of_some _ eb)))
end
end TX
end

section
namespace TX
open PySem PySem.Spec PyProof.Rows L2
/-! ### max of ints (a list, a tuple) and of pairs of ints -/
theorem argBest_le (bt : Nat → Nat → Bool) : ∀ k, argBest bt k ≤ k
  | 0 => Nat.le_refl _
  | k + 1 => by
    simp only [argBest]
    split
    · exact Nat.le_refl _
    · exact Nat.le_succ_of_le (argBest_le bt k)
theorem argBest_top {bt : Nat → Nat → Bool} (asym : ∀ i j, bt i j = true → bt j i = false) (tr : ∀ i j k, bt i j = false → bt j k = false → bt i k = false) : ∀ k j, j ≤ k → bt j (argBest bt k) = false
  | 0, j, h => by
    obtain rfl : j = 0 := by omega
    cases q : bt 0 (argBest bt 0) with
    | false => rfl
    | true =>
      have z : bt 0 0 = false := asym 0 0 q
      have z2 : bt 0 0 = true := q
      rw [z] at z2
      cases z2
  | k + 1, j, h => by
    simp only [argBest]
    by_cases hb : bt (k + 1) (argBest bt k) = true
    · rw [if_pos hb]
      by_cases hj : j = k + 1
      · subst hj
        cases q : bt (k + 1) (k + 1) with
        | false => rfl
        | true =>
          have := asym _ _ q
          rw [q] at this
          exact this
      · exact tr _ _ _ (argBest_top asym tr k j (by omega)) (asym _ _ hb)
    · rw [if_neg hb]
      by_cases hj : j = k + 1
      · subst hj
        simpa using hb
      · exact argBest_top asym tr k j (by omega)
def lexGt (x y : Int × Int) : Bool := if x.1 = y.1 then decide (y.2 < x.2) else decide (y.1 < x.1)
theorem lexGt_asym (x y : Int × Int) (z : lexGt x y = true) : lexGt y x = false := by
  unfold lexGt at z ⊢
  by_cases c : x.1 = y.1
  · rw [if_pos c, decide_eq_true_eq] at z
    rw [if_pos c.symm, decide_eq_false_iff_not]
    omega
  · rw [if_neg c, decide_eq_true_eq] at z
    rw [if_neg (Ne.symm c), decide_eq_false_iff_not]
    omega
theorem lexGt_tr (x y w : Int × Int) (a : lexGt x y = false) (b : lexGt y w = false) : lexGt x w = false := by
  unfold lexGt at a b ⊢
  split at a <;> split at b <;> split <;> rw [decide_eq_false_iff_not] at a b ⊢ <;> omega
def rMaxX (K : PySem.W.Frag) : List V → Hp → VK → Prop := fun vs H Q =>
  (∃ (a : Addr) (ns : List Int), vs = [V.ref a] ∧ (SqL K H a (ns.map V.int) ∨ SqT K H a (ns.map V.int)) ∧ 0 < ns.length ∧ ∀ m, m ∈ ns → (∀ y, y ∈ ns → y ≤ m) → Q (.int m) H) ∨
  ∃ (a : Addr) (ps : List (Addr × Int × Int)), vs = [V.ref a] ∧ H a = some (.lst (ps.map fun p => V.ref p.1)) ∧ (∀ p ∈ ps, SqT K H p.1 [.int p.2.1, .int p.2.2]) ∧ 0 < ps.length ∧ ∀ p ∈ ps, (∀ q ∈ ps, lexGt q.2 p.2 = false) → Q (.ref p.1) H
theorem walk_list {prog : Program} {w : World} {A : Around} {E : Value → Shared → Prop} {s : Shared} {l : Addr} {items : Array Value} (hh : A.handled = none) (hl : s.heap.IsList l items) {Q : Value → Shared → Prop}
    (h : ∀ I fp wr St s2, Walks prog w A I fp wr items.size (fun i v => items[i]? = some v) St → St 0 s2.heap → (∀ b ∈ fp, b < s2.heap.objs.size) → (∀ b o, s.heap.get? b = some o → s2.heap.get? b = some o) → (∀ b ∈ wr, s.heap.objs.size ≤ b) → (∃ h tk, s2 = { s with heap := h, toks := tk }) → s.heap.objs.size ≤ s2.heap.objs.size → Q (.ref I) s2) :
    wpAny (model prog w) A (pyIter (.ref l)) Q E s := by
  have hlt : l < s.heap.objs.size := by
    obtain ⟨_, e, _⟩ := hl
    exact Heap.lt_size e
  refine wpAny_pyIter_list hl (h _ _ _ _ _ (Walks.list hh s.heap.objs.size l (Nat.ne_of_lt hlt) items) ⟨⟨_, Heap.get?_push_size _ rfl, rfl, rfl⟩, hl.push _⟩ (fun b hb => ?_) (fun b o e => Heap.get?_push_of_some _ e) (fun b hb => ?_) ⟨_, _, rfl⟩ ?_)
  · show b < (s.heap.push _).objs.size
    rw [Heap.size_push]
    simp only [List.mem_cons, List.mem_nil_iff, or_false] at hb
    rcases hb with rfl | rfl
    · exact Nat.lt_succ_self _
    · exact Nat.lt_succ_of_lt hlt
  · simp only [List.mem_cons, List.mem_nil_iff, or_false] at hb
    subst hb
    exact Nat.le_refl _
  · show _ ≤ (s.heap.push _).objs.size
    rw [Heap.size_push]
    omega
theorem walk_tup {prog : Program} {w : World} {A : Around} {E : Value → Shared → Prop} {s : Shared} {l : Addr} {items : Array Value} (hh : A.handled = none) (hl : s.heap.IsTuple l items) {Q : Value → Shared → Prop}
    (h : ∀ I fp wr St s2, Walks prog w A I fp wr items.size (fun i v => items[i]? = some v) St → St 0 s2.heap → (∀ b ∈ fp, b < s2.heap.objs.size) → (∀ b o, s.heap.get? b = some o → s2.heap.get? b = some o) → (∀ b ∈ wr, s.heap.objs.size ≤ b) → (∃ h tk, s2 = { s with heap := h, toks := tk }) → s.heap.objs.size ≤ s2.heap.objs.size → Q (.ref I) s2) :
    wpAny (model prog w) A (pyIter (.ref l)) Q E s := by
  have hlt : l < s.heap.objs.size := by
    obtain ⟨_, e, _⟩ := hl
    exact Heap.lt_size e
  refine wpAny_pyIter_tuple hl (h _ _ _ _ _ (Walks.tuple hh s.heap.objs.size l (Nat.ne_of_lt hlt) items) ⟨⟨_, Heap.get?_push_size _ rfl, rfl, rfl⟩, hl.push _⟩ (fun b hb => ?_) (fun b o e => Heap.get?_push_of_some _ e) (fun b hb => ?_) ⟨_, _, rfl⟩ ?_)
  · show b < (s.heap.push _).objs.size
    rw [Heap.size_push]
    simp only [List.mem_cons, List.mem_nil_iff, or_false] at hb
    rcases hb with rfl | rfl
    · exact Nat.lt_succ_self _
    · exact Nat.lt_succ_of_lt hlt
  · simp only [List.mem_cons, List.mem_nil_iff, or_false] at hb
    subst hb
    exact Nat.le_refl _
  · show _ ≤ (s.heap.push _).objs.size
    rw [Heap.size_push]
    omega
theorem ints_get : ∀ {us : List Value} {ns : List Int}, IntsAre us ns → ∀ (i : Nat) v, us[i]? = some v → ∃ t, v = .int (ns.getD i 0) t ∧ i < ns.length
  | _, _, .nil, i, v, h => by simp at h
  | _, _, .cons a t r, 0, v, h => by
    have e : v = .int a t := by simpa using h.symm
    subst e
    exact ⟨t, rfl, by simp⟩
  | _, _, .cons a t r, i + 1, v, h => by
    obtain ⟨t', e, l⟩ := ints_get r i v (by simpa using h)
    exact ⟨t', by simpa using e, by simpa using l⟩
theorem max_of {prog : Program} {w : World} {A : Around} {E : Value → Shared → Prop} {s : Shared} {l : Addr} {its : List Value} {ns : List Int} {Q : Value → Shared → Prop} (hh : A.handled = none) (hl : s.heap.IsList l its.toArray ∨ s.heap.IsTuple l its.toArray) (hi : IntsAre its ns) (hn : 0 < ns.length)
    (h : ∀ h' tk m t, (∀ b o, s.heap.get? b = some o → h'.get? b = some o) → m ∈ ns → (∀ y, y ∈ ns → y ≤ m) → Q (.int m t) { s with heap := h', toks := tk }) : wpAny (model prog w) A (call (.builtin "max") [.ref l]) Q E s := by
  have len : its.length = ns.length := hi.length
  have go : ∀ (I : Addr) fp wr St (s2 : Shared), Walks prog w A.in1 I fp wr its.toArray.size (fun i v => its.toArray[i]? = some v) St → St 0 s2.heap → (∀ b ∈ fp, b < s2.heap.objs.size) → (∀ b o, s.heap.get? b = some o → s2.heap.get? b = some o) → (∀ b ∈ wr, s.heap.objs.size ≤ b) → (∃ h tk, s2 = { s with heap := h, toks := tk }) → s.heap.objs.size ≤ s2.heap.objs.size →
      ∃ I' fp' wr' n P St' bt Kp, (Value.ref I) = .ref I' ∧ Walks prog w A.in1 I' fp' wr' n P St' ∧ St' 0 s2.heap ∧ (∀ b ∈ fp', b < s2.heap.objs.size) ∧ 0 < n ∧ CmpAt prog w A.in1 Kp P bt ∧ Kp s2.heap ∧ (∀ Z, s2.heap.objs.size ≤ Z → ∀ h h', Kp h → (∀ b o, b ∉ wr' → b ≠ Z → h.get? b = some o → h'.get? b = some o) → Kp h') ∧
        ∀ v h' tk, P (argBest bt (n - 1)) v → (∀ b o, b ∉ wr' → s2.heap.get? b = some o → h'.get? b = some o) → Q v { s2 with heap := h', toks := tk } := by
    intro I fp wr St s2 W st hf keep hw ⟨h0, tk0, e2⟩ hs
    refine ⟨I, fp, wr, _, _, St, fun i j => decide (ns.getD j 0 < ns.getD i 0), fun _ => True, rfl, W, st, hf, by rw [List.size_toArray]; omega, ?_, trivial, fun _ _ _ _ _ _ => trivial, ?_⟩
    · intro i j vi vj s3 Q3 E3 _ hi' hj' q
      obtain ⟨t, rfl, _⟩ := ints_get hi i vi (by simpa using hi')
      obtain ⟨u, rfl, _⟩ := ints_get hi j vj (by simpa using hj')
      exact PyProof.Rows.gt_int q
    · intro v h' tk hP hk
      obtain ⟨t, rfl, hl2⟩ := ints_get hi _ v (by simpa using hP)
      subst e2
      refine h h' tk _ t (fun b o eb => hk b o (fun hb => absurd (Heap.lt_size eb) (Nat.not_lt.mpr (hw b hb))) (keep b o eb)) ?_ fun y hy => ?_
      · rw [List.getD_eq_getElem?_getD, List.getElem?_eq_getElem hl2]
        exact List.getElem_mem hl2
      · obtain ⟨j, hj, rfl⟩ := List.getElem_of_mem hy
        have top := argBest_top (bt := fun i j => decide (ns.getD j 0 < ns.getD i 0)) (fun i j z => by simp at z ⊢; omega) (fun i j k a b => by simp at a b ⊢; omega) (its.toArray.size - 1) j (by rw [List.size_toArray]; omega)
        simp only [decide_eq_false_iff_not, Int.not_lt] at top
        rw [List.getD_eq_getElem?_getD (l := ns) (i := j), List.getElem?_eq_getElem hj] at top
        exact top
  rcases hl with hl | hl
  · exact max_at (walk_list (by exact hh) hl fun I fp wr St s2 a b c d e f g => go I fp wr St s2 a b c d e f g)
  · exact max_at (walk_tup (by exact hh) hl fun I fp wr St s2 a b c d e f g => go I fp wr St s2 a b c d e f g)
theorem eqI {A : Around} {s : Shared} (a b : Int) (t u : Tok) : SeqAt.EqAt A s (.int a t) (.int b u) (a == b) := fun prog w E Q h => wpAny_eqBool_int h
theorem max_pairs {prog : Program} {w : World} {A : Around} {E : Value → Shared → Prop} {s : Shared} {l : Addr} {ps : List (Addr × Int × Int)} {Q : Value → Shared → Prop} (hh : A.handled = none) (hu : A.units + 8 < cLine) (hl : s.heap.IsList l (ps.map fun p => Value.ref p.1).toArray)
    (hp : ∀ p ∈ ps, ∃ t u, s.heap.IsTuple p.1 #[.int p.2.1 t, .int p.2.2 u]) (hn : 0 < ps.length)
    (h : ∀ h' tk p, (∀ b o, s.heap.get? b = some o → h'.get? b = some o) → p ∈ ps → (∀ q ∈ ps, lexGt q.2 p.2 = false) → Q (.ref p.1) { s with heap := h', toks := tk }) : wpAny (model prog w) A (call (.builtin "max") [.ref l]) Q E s := by
  refine max_at (walk_list (by exact hh) hl fun I fp wr St s2 W st hf keep hw ⟨h0, tk0, e2⟩ hs => ?_)
  have at_ : ∀ (i : Nat) v, ((ps.map fun p => Value.ref p.1).toArray)[i]? = some v → ∃ (hi : i < ps.length), v = .ref ps[i].1 := fun i v hv => by
    simp only [List.getElem?_toArray, List.getElem?_map] at hv
    by_cases hi : i < ps.length
    · rw [List.getElem?_eq_getElem hi] at hv
      exact ⟨hi, by simpa using hv.symm⟩
    · rw [List.getElem?_eq_none (by omega)] at hv
      simp at hv
  refine ⟨I, fp, wr, _, _, St, fun i j => lexGt (ps.getD i (0, 0, 0)).2 (ps.getD j (0, 0, 0)).2, fun hh => ∀ b o, s.heap.get? b = some o → hh.get? b = some o, rfl, W, st, hf, by simpa using hn, ?_, keep, fun Z hZ h1 h2 k1 k2 b o eb => ?_, ?_⟩
  · intro i j vi vj s3 Q3 E3 k3 hi' hj' q
    obtain ⟨li, rfl⟩ := at_ i vi hi'
    obtain ⟨lj, rfl⟩ := at_ j vj hj'
    obtain ⟨t, u, p1⟩ := hp _ (List.getElem_mem li)
    obtain ⟨t', u', p2⟩ := hp _ (List.getElem_mem lj)
    have g1 : ps.getD i (0, 0, 0) = ps[i] := by rw [List.getD_eq_getElem?_getD, List.getElem?_eq_getElem li] <;> rfl
    have g2 : ps.getD j (0, 0, 0) = ps[j] := by rw [List.getD_eq_getElem?_getD, List.getElem?_eq_getElem lj] <;> rfl
    have z1 : s3.heap.IsTuple ps[i].1 #[.int ps[i].2.1 t, .int ps[i].2.2 u] := p1.at fun o eo => k3 _ o eo
    have z2 : s3.heap.IsTuple ps[j].1 #[.int ps[j].2.1 t', .int ps[j].2.2 u'] := p2.at fun o eo => k3 _ o eo
    refine Ob.RcOp.tuples_gt (A := A.in1) (s := s3) z1 z2 (by show A.units + 1 < cLine; omega) (e := fun k => if k = 0 then ps[i].2.1 == ps[j].2.1 else ps[i].2.2 == ps[j].2.2) (r := fun k => if k = 0 then decide (ps[j].2.1 < ps[i].2.1) else decide (ps[j].2.2 < ps[i].2.2)) ?_ ?_ prog w E3 Q3 ?_
    · intro k h1 h2
      have h3 : k < 2 := h1
      obtain rfl | rfl : k = 0 ∨ k = 1 := by omega
      · exact eqI _ _ _ _
      · exact eqI _ _ _ _
    · intro k h1 h2 _
      have h3 : k < 2 := h1
      obtain rfl | rfl : k = 0 ∨ k = 1 := by omega
      · exact Ob.RcOp.gt_int _ _ _ _
      · exact Ob.RcOp.gt_int _ _ _ _
    · have e0 : Ob.lexAt (fun k => if k = 0 then ps[i].2.1 == ps[j].2.1 else ps[i].2.2 == ps[j].2.2) (fun k => if k = 0 then decide (ps[j].2.1 < ps[i].2.1) else decide (ps[j].2.2 < ps[i].2.2)) (decide ((#[Value.int ps[i].2.1 t, .int ps[i].2.2 u] : Array Value).size > (#[Value.int ps[j].2.1 t', .int ps[j].2.2 u'] : Array Value).size)) 0 (min (#[Value.int ps[i].2.1 t, .int ps[i].2.2 u] : Array Value).size (#[Value.int ps[j].2.1 t', .int ps[j].2.2 u'] : Array Value).size) = lexGt ps[i].2 ps[j].2 := by
        show Ob.lexAt _ _ _ 0 2 = _
        simp only [Ob.lexAt, lexGt, if_true, Nat.zero_add, Nat.one_ne_zero, if_false, beq_iff_eq]
        by_cases c1 : ps[i].2.1 = ps[j].2.1
        · rw [if_pos c1, if_pos c1]
          by_cases c2 : ps[i].2.2 = ps[j].2.2
          · rw [if_pos c2, c2]
            simp
          · rw [if_neg c2]
        · rw [if_neg c1, if_neg c1]
      rw [e0]
      dsimp only at q
      rw [g1, g2] at q
      exact q
  · have lb := Heap.lt_size eb
    exact k2 b o (fun hb => absurd lb (Nat.not_lt.mpr (hw b hb))) (Nat.ne_of_lt (Nat.lt_of_lt_of_le lb (Nat.le_trans hs hZ))) (k1 b o eb)
  · intro v h' tk hP hk
    obtain ⟨li, rfl⟩ := at_ _ v hP
    subst e2
    refine h h' tk _ (fun b o eb => hk b o (fun hb => absurd (Heap.lt_size eb) (Nat.not_lt.mpr (hw b hb))) (keep b o eb)) (List.getElem_mem li) fun q hq => ?_
    obtain ⟨j, hj, rfl⟩ := List.getElem_of_mem hq
    have top := argBest_top (bt := fun i j => lexGt (ps.getD i (0, 0, 0)).2 (ps.getD j (0, 0, 0)).2) (fun i j z => lexGt_asym _ _ z) (fun i j k a b => lexGt_tr _ _ _ a b) ((ps.map fun p => Value.ref p.1).toArray.size - 1) j (by rw [List.size_toArray, List.length_map]; omega)
    rw [List.getD_eq_getElem?_getD, List.getD_eq_getElem?_getD, List.getElem?_eq_getElem hj, List.getElem?_eq_getElem li] at top
    exact top
end TX
end

section
namespace TX
open PySem PySem.Spec PyProof.Rows L2
section
variable {X : Cx}
theorem units65 {k : Nat} {A : Around} (h : Room k A) : A.units + 65 < cLine := by
  have := h.un
  omega
theorem room {j k : Nat} {A : Around} (h : Room k A) (l : j ≤ k := by decide) : Room j A := h.mono l
theorem tuple_of (I : Inv X pins σ H s) {a : Addr} {xs : List V} (h : SqT X.K H a xs) : ∃ its : List Value, Vals xs its ∧ s.heap.IsTuple a its.toArray := by
  obtain ⟨its, rv, p, _⟩ := I.tuple h
  exact ⟨its, rv, p⟩
theorem cr_maxX (hc : X.calm = true) (hu : X.A.units + 65 < cLine) : CallR X (.builtin "max") (rMaxX X.K) := by
  intro pins s σ H vs us Q I r h
  rcases h with ⟨a, ns, rfl, hs, hn, q⟩ | ⟨a, ps, rfl, hs, hp, hn, q⟩
  · rw [Vals.ref1 r]
    rcases hs with hs | hs
    · obtain ⟨its, rv, hl, _⟩ := I.list hs
      exact max_of (I.ok.hd hc) (.inl hl.isList) rv.ints hn fun h' tk m t hk h1 h2 => ⟨.int _, H, I.kept hk, ⟨_, rfl⟩, q m h1 h2⟩
    · obtain ⟨its, rv, hl, _⟩ := I.tuple hs
      exact max_of (I.ok.hd hc) (.inr hl) rv.ints hn fun h' tk m t hk h1 h2 => ⟨.int _, H, I.kept hk, ⟨_, rfl⟩, q m h1 h2⟩
  · rw [Vals.ref1 r]
    obtain ⟨its, rv, hl, _⟩ := I.list (.of hs)
    have refs : ∀ (ps : List (Addr × Int × Int)) (its : List Value), Vals (ps.map fun p => V.ref p.1) its → its = ps.map fun p => Value.ref p.1 := by
      intro ps
      induction ps with
      | nil =>
        intro its r
        cases r
        rfl
      | cons p ps ih =>
        intro its r
        cases r with
        | cons r1 r2 =>
          rw [ih _ r2]
          cases r1
          rfl
    have e1 := refs ps its rv
    subst e1
    refine max_pairs (I.ok.hd hc) (by omega) hl.isList (fun p hpm => ?_) hn fun h' tk p hk h1 h2 => ⟨.ref _, H, I.kept hk, rfl, q p h1 h2⟩
    obtain ⟨its2, rv2, tp⟩ := tuple_of I (hp p hpm)
    cases rv2 with
    | cons a1 a2 =>
      cases a2 with
      | cons b1 b2 =>
        cases b2
        obtain ⟨t, rfl⟩ := a1
        obtain ⟨u, rfl⟩ := b1
        exact ⟨t, u, tp⟩
/-! ### set(xs) of ints; in -/
def rSetX (K : PySem.W.Frag) : List V → Hp → VK → Prop := fun vs H Q => ∃ (a : Addr) (ns : List Int), vs = [V.ref a] ∧ (SqL K H a (ns.map V.int) ∨ SqT K H a (ns.map V.int)) ∧ ns.length ≤ 1000 ∧
  ∀ p n, H p = none → n ≤ ns.length → Q (.ref p) (upd H p (.set (fun k => decide (k ∈ ns)) n))
theorem scan1000 : 1002 < scanBound := by decide
theorem cr_setX (hc : X.calm = true) : CallR X (.type "set") (rSetX X.K) := by
  intro pins s σ H vs us Q I r h
  obtain ⟨a, ns, rfl, hs, hn, q⟩ := h
  have sb := scan1000
  rw [Vals.ref1 r]
  have fin : ∀ (h' : Heap) (tk : Nat) (f : Int → Bool) (n : Nat), h'.SetOf (intKind X.prog X.w) s.heap.objs.size f n → (∀ k, f k = decide (k ∈ ns)) → n ≤ ns.length → (∀ b o, s.heap.get? b = some o → h'.get? b = some o) → EP X pins σ Q (.ref s.heap.objs.size) { s with heap := h', toks := tk } := by
    intro h' tk f n so hf hle hk
    have hf2 : f = fun k => decide (k ∈ ns) := funext hf
    subst hf2
    exact ⟨.ref _, _, I.laid (t' := tk) hk (Nat.le_refl _) (show ObjOk X.prog X.w _ _ _ (.set _ n) from so), rfl, q _ n (I.hok.fresh (Nat.le_refl _)) hle⟩
  rcases hs with hs | hs
  · obtain ⟨its, rv, hl, _⟩ := I.list hs
    have li := rv.length
    rw [List.length_map] at li
    refine call_set_list (I.ok.hd hc) hl.isList (by simpa using rv.ints) (by rw [List.size_toArray]; omega) fun h' tk so hk => ?_
    refine fin h' tk _ _ so (fun k => ?_) ?_ fun b o eb => hk b o (Heap.lt_size eb) eb
    · have e0 : its.toArray.size = ns.length := by rw [List.size_toArray, ← li]
      have e1 : ((List.range its.toArray.size).map fun i => ns.getD i 0) = ns := by
        apply List.ext_getElem
        · simp [e0]
        · intro i h1 h2
          simp [List.getD_eq_getElem?_getD, h2]
      rw [firstMet_any, e1]
      rw [Bool.eq_iff_iff]
      simp
    · have := firstMet_length_le (fun i => ns.getD i 0) its.toArray.size
      rw [List.size_toArray] at this ⊢
      omega
  · obtain ⟨its, rv, hl, _⟩ := I.tuple hs
    refine call_set_tupI ns (I.ok.hd hc) hl (by simpa using rv.ints) (by omega) fun h' tk n so hle hk => ?_
    exact fin h' tk _ n so.setOf (fun k => rfl) hle hk
def rInS (neg : Bool) : R2 := fun x y H Q => ∃ k a S n, x = V.int k ∧ y = V.ref a ∧ H a = some (.set S n) ∧ Q (.bl (if neg then !S k else S k)) H
theorem op_inSet : OpR X (compareOp .In) (rInS false) := by
  intro pins s σ H x y v u Q I rx ry h
  obtain ⟨k, a, S, n, rfl, rfl, ha, q⟩ := h
  obtain ⟨tk, rfl⟩ := rx
  cases ry
  have so : s.heap.SetOf (intKind X.prog X.w) a S n := I.hok a _ ha
  exact wpAny_inSet_of (intKind_is _ _ _ _) rfl so ⟨.bl (S k), H, I.tok _, rfl, q⟩
theorem op_niSet : OpR X (compareOp .NotIn) (rInS true) := by
  intro pins s σ H x y v u Q I rx ry h
  obtain ⟨k, a, S, n, rfl, rfl, ha, q⟩ := h
  obtain ⟨tk, rfl⟩ := rx
  cases ry
  have so : s.heap.SetOf (intKind X.prog X.w) a S n := I.hok a _ ha
  exact wpAny_notInSet_of (intKind_is _ _ _ _) rfl so ⟨.bl (!S k), H, I.tok _, rfl, q⟩
def rInX (K : PySem.W.Frag) : R2 := fun x y H Q => rInD K x y H Q ∨ rIn K false x y H Q ∨ rInS false x y H Q
def rNiX (K : PySem.W.Frag) : R2 := fun x y H Q => rNotInD K x y H Q ∨ rIn K true x y H Q ∨ rInS true x y H Q
theorem op_inX (hu : X.A.units + 65 < cLine) : OpR X (compareOp .In) (rInX X.K) := (op_inD hu).or (op_in_seq.or op_inSet)
theorem op_niX (hu : X.A.units + 65 < cLine) : OpR X (compareOp .NotIn) (rNiX X.K) := (op_notInD hu).or (op_notIn_seq.or op_niSet)
/-! ### x.index(k) of ints -/
def rIndexI (K : PySem.W.Frag) : V → List V → Hp → VK → Prop := fun x xs H Q => ∃ (a : Addr) (ns : List Int) (k : Int), x = V.ref a ∧ xs = [V.int k] ∧ SqL K H a (ns.map V.int) ∧ k ∈ ns ∧ Q (.int (ns.idxOf k : Nat)) H
def rIndexT (K : PySem.W.Frag) : V → List V → Hp → VK → Prop := fun x xs H Q => ∃ (a : Addr) (ns : List Int) (k : Int), x = V.ref a ∧ xs = [V.int k] ∧ SqT K H a (ns.map V.int) ∧ k ∈ ns ∧ Q (.int (ns.idxOf k : Nat)) H
theorem mt_indexI : MtR X "list.index" (rIndexI X.K) := by
  intro pins s σ H x xs v us Q I rx rxs h
  obtain ⟨a, ns, k, rfl, rfl, hs, hk, q⟩ := h
  cases rx
  obtain ⟨u, rfl, t, rfl⟩ := vals1 rxs
  obtain ⟨its, rv, hl, hz⟩ := I.list hs
  rw [List.length_map] at hz
  exact SeqAt.list_index_ints hl.isList rv.ints hz hk ⟨.int _, H, I.tok _, ⟨_, rfl⟩, q⟩
theorem mt_indexT : MtR X "tuple.index" (rIndexT X.K) := by
  intro pins s σ H x xs v us Q I rx rxs h
  obtain ⟨a, ns, k, rfl, rfl, hs, hk, q⟩ := h
  cases rx
  obtain ⟨u, rfl, t, rfl⟩ := vals1 rxs
  obtain ⟨its, rv, hl, hz⟩ := I.tuple hs
  exact SeqAt.tuple_index_ints hl rv.ints hk ⟨.int _, H, I.tok _, ⟨_, rfl⟩, q⟩
/-- one of two readings -/
def tEither (t1 t2 : TE) : TE := fun σ H Q => t1 σ H Q ∨ t2 σ H Q
theorem pe_either {e : Expr} {t1 t2 : TE} (h1 : PE X e t1) (h2 : PE X e t2) : PE X e (tEither t1 t2) := ⟨fun pins s σ H Q I h => h.elim (fun z => h1.run pins s σ H Q I z) fun z => h2.run pins s σ H Q I z⟩
/-! ### written tuples as exact objects, their methods -/
theorem pe_tupF {X : Cx} {es : List Expr} {t : TA} {pos : Pos} {x1} (h : PA X es t) : PE X (.Tuple es x1 pos) (tTupF t) := by
  refine ⟨fun pins s σ H Q I hq => ?_⟩
  refine wpAny_Tuple_spliced (thn (h.run pos pins s σ H _ I hq) fun us s1 ⟨xs, H1, I1, r, z, q⟩ => ⟨by rw [← r.length]; exact z, ?_⟩)
  have hf : H1 s1.heap.objs.size = none := I1.hok.fresh (Nat.le_refl _)
  have I2 := I1.laid (t' := s1.toks) (o := .frz { cls := .type "tuple", data := .seq us.toArray } (.tup xs)) (fun b u e => Heap.get?_push_of_some _ e) (Nat.le_refl _) ⟨Heap.get?_push_size _ rfl, ⟨z, us, r, PyProof.Rows.IsTup.new _ _⟩⟩
  exact ⟨.ref s1.heap.objs.size, _, I2, rfl, q _ _ hf rfl⟩
def tBMT (r : V → List V → Hp → VK → Prop) (to : TE) (t : TA) : TE := fun σ H Q => to σ H fun x H1 => (∃ a o xs, x = V.ref a ∧ H1 a = some (.frz o (.tup xs)) ∧ o.dict = none) ∧ t σ H1 fun xs H2 => r x xs H2 Q
theorem pe_bmT {X : Cx} {o e : Expr} {es : List Expr} {to : TE} {t : TA} {name : Str} {apos cpos : Pos} {id : String} {r : V → List V → Hp → VK → Prop} (pa : PlainAttrs "tuple") (slot : Slot "tuple" name id) (hty : typeOf (.builtin id) = pure (.type "method_descriptor")) (hm : MtR X id r) (ho : PE X o to) (ha : PA X (e :: es) t)
    (hbase : attributeBase o name X.env (eval o X.env) = eval o X.env := by rfl)
    (hfew : ((backTo cpos (starEach (e :: es) X.env)).all (fun x => !x.1) && (backToKw cpos (keywordEach [] X.env)).all (fun x => x.1.isSome)
      && decide ((e :: es).length + ([] : List Keyword).length + (if ([] : List Keyword).isEmpty then 0 else 1) < 30)) = true := by rfl)
    (hline : (apos.endLine == cpos.line) = true := by rfl) (hs : starEach (e :: es) X.env = (false, eval e X.env) :: starEach es X.env := by rfl) (hplain : (backTo cpos (starEach es X.env)).any (·.1) = false := by rfl) :
    PE X (.Call (.Attribute o name apos) (e :: es) [] cpos) (tBMT r to t) := by
  refine ⟨fun pins s σ H Q I h => ?_⟩
  refine wpAny_Call_method_late hbase hfew hline rfl (thn (ho.run pins s σ H _ I h) fun v s1 ⟨x, H1, I1, r1, ty, q1⟩ => ?_)
  obtain ⟨a, ob, xs, rfl, hk, hd⟩ := ty
  cases r1
  obtain ⟨its, _, tp⟩ := tuple_of I1 (.inl (.inr ⟨ob, hk⟩))
  refine ⟨"tuple", id, pa, slot, hty, tp.typeIs, fun b e2 => ?_, ?_⟩
  · cases e2
    exact ⟨ob, (I1.hok _ _ hk).1, hd⟩
  have hA := ha.run cpos pins s1 σ H1 _ I1 q1
  rw [hs] at hA ⊢
  refine Calls.callWith_builtin (by show (false || (backTo cpos (starEach es X.env)).any (·.1)) = false; rw [hplain] <;> rfl) (Calls.evalArgs_plain ?_)
  exact thn hA fun us s2 ⟨vs, H2, I2, r2, q2⟩ => hm pins s2 σ H2 (.ref a) vs (.ref a) us Q I2 rfl r2 q2
/-! ### repr -/
def rRepr (K : PySem.W.Frag) : List V → Hp → VK → Prop := fun vs H Q => ∃ x d, vs = [x] ∧ Dp K H x d ∧ d.showable = true ∧ d.hasDict = false ∧ d.depth ≤ 50 ∧ d.shown.length ≤ sizeLine ∧ Q (.str d.shown) H
theorem cr_repr (hg : X.A.guards = some []) (hu : X.A.units + 65 < cLine) : CallR X (.builtin "repr") (rRepr X.K) := by
  intro pins s σ H vs us Q I r h
  obtain ⟨x, d, rfl, hd, sw, nd, dp, sz, q⟩ := h
  obtain ⟨u, rfl, ru⟩ := vals1 r
  obtain ⟨as, rd⟩ := Dp.reads I d x u hd ru
  have fin : ∀ (h' : Heap) t tk, (∀ b o, s.heap.get? b = some o → h'.get? b = some o) → EP X pins σ Q (.str d.shown t) { s with heap := h', toks := tk } := fun h' t tk hk => ⟨.str _, H, I.kept hk, ⟨_, rfl⟩, q⟩
  cases rd with
  | none => exact P.repr_of_none (fin s.heap _ _ fun _ _ z => z)
  | bool b => exact P.repr_of_bool (fin s.heap _ _ fun _ _ z => z)
  | int i t => exact P.repr_of_int (by simpa [PyData.showable] using sw) (fin s.heap _ _ fun _ _ z => z)
  | str y t => exact P.repr_of_str (fin s.heap _ _ fun _ _ z => z) (by simpa only [PyData.shown] using sz)
  | list h1 h2 h3 h4 => exact repr_of_reads' (.list h1 h2 h3 h4) sw (fun z => by rw [nd] at z; cases z) hg (by omega) (fun _ _ z => z) (fun h' t tk hk => fin h' t tk hk) sz
  | tuple h1 h2 h3 h4 => exact repr_of_reads' (.tuple h1 h2 h3 h4) sw (fun z => by rw [nd] at z; cases z) hg (by omega) (fun _ _ z => z) (fun h' t tk hk => fin h' t tk hk) sz
  | dict h1 h2 h3 h4 h5 => simp [PyData.hasDict] at nd
end
end TX
end

section
namespace TX
open PySem PySem.Spec PyProof.Rows L2
/-! ### slices with a step -/
def stepIx (lo hi st : Option Int) (n : Nat) : List Nat := sliceRange (sliceBounds lo hi st n).1 (sliceBounds lo hi st n).2.1 (sliceBounds lo hi st n).2.2
theorem pick_step (items : List Value) (lo hi st : Option Int) : slicePick items.toArray lo hi st = (pickL (stepIx lo hi st items.length) items).toArray := by
  unfold slicePick pickL stepIx
  congr 1
  simp
def tStepL (K : PySem.W.Frag) (te : TE) (tl th tz : TO) : TE := fun σ H Q => te σ H fun x H1 => tl σ H1 fun lo H2 => th σ H2 fun hi H3 => tz σ H3 fun st H4 => ∃ a xs, x = .ref a ∧ SqL K H4 a xs ∧ st ≠ some 0 ∧ ∀ p, H4 p = none → Q (.ref p) (upd H4 p (.lst (pickL (stepIx lo hi st xs.length) xs)))
theorem pickL_le {α : Type} (is : List Nat) (xs : List α) : (pickL is xs).length ≤ is.length := List.length_filterMap_le _ _
theorem pe_stepL {X : Cx} {e : Expr} {te : TE} {l u : Option Expr} {ze : Expr} {tl th tz : TO} {p3 pos : Pos} (he : PE X e te) (hl : PO X l tl) (hu : PO X u th) (hz : PO X (some ze) tz) : PE X (.Subscript e (.Slice l u (some ze) p3) pos) (tStepL X.K te tl th tz) := by
  constructor
  intro pn s0 sg Hh Qq Ii hw
  refine Subscript_ (thn (he.run pn s0 sg Hh _ Ii hw) fun vv s1 ⟨x, H1, I1, r1, q1⟩ => ?_)
  refine wpAny_Slice (thn (hl.run pn s1 sg H1 _ I1 q1) fun vl s2 ⟨lo, H2, I2, pl, q2⟩ => ?_)
  refine thn (hu.run pn s2 sg H2 _ I2 q2) fun vu s3 ⟨hi, H3, I3, pu, q3⟩ => ?_
  refine thn (hz.run pn s3 sg H3 _ I3 q3) fun vz s4 ⟨st, H4, I4, ps, q4⟩ => ?_
  obtain ⟨a, xs, ex, hx, h0, q⟩ := q4
  subst ex
  cases r1
  have I5 : Inv X pn sg H4 { s4 with heap := s4.heap.push { cls := .type "slice", data := .fields #[vl, vu, vz] } } := I4.kept (t' := s4.toks) fun b ob z => Heap.get?_push_of_some _ z
  obtain ⟨its, r, ht, hsz⟩ := I5.list hx
  have hlen := r.length
  show wpAny (model X.prog X.w) X.A (subscriptTail e (.Slice l u (some ze) p3) (.ref a) (.ref s4.heap.objs.size)) (EP X pn sg Qq) X.xe _
  refine tail_any (ops := [.ref a, .ref s4.heap.objs.size]) ht.isList.typeIs PySem.slot_list_getitem.lookup ?_ (by with_unfolding_all rfl)
  refine wpAny_getItem_list_slice ht.isList (Heap.IsSliceOf.new _ vl vu vz) pl pu ps h0 ?_ (by rw [List.size_toArray]; omega)
  have pv' := pick_vals (is := stepIx lo hi st xs.length) r
  rw [pick_step, ← hlen]
  refine ⟨.ref _, _, I5.laid (t' := s4.toks) (o := .lst (pickL (stepIx lo hi st xs.length) xs)) (fun b ob z => Heap.get?_push_of_some _ z) (Nat.le_refl _) ?_, rfl, q _ (I5.hok.fresh (Nat.le_refl _))⟩
  refine ⟨?_, _, 0, pv', Heap.get?_push_size _ rfl⟩
  have hh := slicePick_size_le its.toArray lo hi st
  rw [pick_step, List.size_toArray, List.size_toArray, ← hlen, ← pv'.length] at hh
  omega
/-! ### over trees -/
section
variable {c : Ct} {S H : Hp} {ts : List O} {vs : List V} {e : Env} {σ : L2.St} {o o1 o2 : O} {u v x y : V} {Q : O → Env → Prop}
theorem Reps.pick {K : PySem.W.Frag} {S : Hp} {ds : List D} {us : List V} (h : Reps K S ds us) : ∀ is : List Nat, Reps K S (pickL is ds) (pickL is us)
  | [] => by simp [pickL, Reps]
  | i :: is => by
    have ih := Reps.pick h is
    unfold pickL at ih ⊢
    rw [List.filterMap_cons, List.filterMap_cons]
    cases q : ds[i]? with
    | none =>
      rw [List.getElem?_eq_none (by rw [h.len]; exact List.getElem?_eq_none_iff.mp q)]
      exact ih
    | some d =>
      obtain ⟨x, k1, k2⟩ := h.get q
      rw [k1]
      simp only [Reps]
      exact ⟨x, _, rfl, k2, ih⟩
theorem we_step {te : TE} {tl th tz : TO} (h : WE c te e fun o e1 => WO c tl e1 fun lo e2 => WO c th e2 fun hi e3 => WO c tz e3 fun st e4 => nobx o = true ∧ st ≠ some 0 ∧ ∃ ds, toD o = .lst ds ∧ Q (.lst ((pickL (stepIx lo hi st ds.length) ds).map O.sh)) e4) :
    WE c (tStepL c.K te tl th tz) e Q := fun S H ts vs σ r Q' k => h S H ts vs σ r _ fun o v e1 S1 H1 r1 q1 => q1 S1 H1 _ _ σ r1 _ fun lo e2 S2 H2 r2 q2 => q2 S2 H2 _ _ σ r2 _ fun hi e3 S3 H3 r3 q3 => q3 S3 H3 _ _ σ r3 _ fun st e4 S4 H4 r4 ⟨n, h0, ds, hd, q⟩ => by
  obtain ⟨S5, s5, t1, r5⟩ := R.freeze1 r4 n
  rw [hd] at t1
  simp only [Rep] at t1
  obtain ⟨p, xs, rfl, a1, a2⟩ := t1
  have ll := a2.len
  have rc := a2.pick (stepIx lo hi st ds.length)
  refine ⟨p, xs, rfl, .of (r5.sub _ _ a1), h0, fun z hz => ?_⟩
  rw [ll]
  exact k _ _ _ _ _ ((r5.pushes rc).list (by rw [rc.len, List.length_map]) hz) q
theorem pick_rev {α : Type} (ds : List α) : pickL (stepIx none none (some (-1)) ds.length) ds = ds.reverse := by
  have e : stepIx none none (some (-1)) ds.length = (List.range ds.length).reverse := by
    unfold stepIx
    rw [PySem.W.krv_bounds]
    show sliceRange ((ds.length : Int) - 1) (-1) (-1) = _
    rw [PySem.W.krv_sliceRange, PySem.W.krv_range]
  rw [e]
  unfold pickL
  rw [List.filterMap_reverse]
  congr 1
  apply List.ext_getElem?
  intro i
  have : ∀ (n : Nat) (ds : List α), n ≤ ds.length → (List.range n).filterMap (fun i => ds[i]?) = ds.take n := by
    intro n ds
    induction n with
    | zero => intro _; simp
    | succ n ih =>
      intro h
      rw [List.range_succ, List.filterMap_append, ih (by omega), List.take_add_one]
      cases hh : ds[n]? <;> simp [hh]
  rw [this _ _ (Nat.le_refl _), List.take_length]
/-! list(range(n)) -/
theorem rgV_rep {K : PySem.W.Frag} {S : Hp} (a b : Int) : Reps K S (rngD a (b - a).toNat) (rgV a b) := by
  unfold rngD rgV
  generalize List.range (b - a).toNat = l
  induction l with
  | nil => simp [Reps]
  | cons i l ih =>
    simp only [List.map_cons, Reps, Rep]
    exact ⟨_, _, rfl, rfl, ih⟩
theorem we_lrg1 {te : TE} (h : WE c te e fun o e1 => ∃ n : Int, o = .sh (.int n) ∧ n ≤ 10000 ∧ -10000 ≤ n ∧ Q (.lst ((rngD 0 n.toNat).map O.sh)) e1) : WE c (tLstRg (tRg1 te)) e Q := fun S H ts vs σ r Q' k =>
  h S H ts vs σ r _ fun o v e1 S1 H1 r1 ⟨n, e2, h1, h2, q⟩ => by
    subst e2
    have t : v = V.int n := r1.top
    subst t
    have rr := rgV_rep (K := c.K) (S := S1) 0 n
    rw [Int.sub_zero] at rr
    refine ⟨n, rfl, ⟨by omega, by omega, by omega, by omega, by omega⟩, fun z hz => k _ _ _ _ _ ((r1.pop.pushes rr).list (by rw [rr.len, List.length_map]) hz) q⟩
theorem we_either1 {t1 t2 : TE} (h : WE c t1 e Q) : WE c (tEither t1 t2) e Q := fun S H ts vs σ r Q' k => .inl (h S H ts vs σ r Q' k)
theorem we_either2 {t1 t2 : TE} (h : WE c t2 e Q) : WE c (tEither t1 t2) e Q := fun S H ts vs σ r Q' k => .inr (h S H ts vs σ r Q' k)
/-- a method of a list, a tuple that is shared -/
theorem we_indexI {te : TE} {ta : TA} (h : WE c te e fun o e1 => nobx o = true ∧ ∃ ns : List Int, toD o = .lst (ns.map D.int) ∧ WA c ta e1 fun os e2 => ∃ k : Int, os = [.sh (.int k)] ∧ k ∈ ns ∧ Q (.sh (.int (ns.idxOf k : Nat))) e2) : WE c (tBM c.K "list" (rIndexI c.K) te ta) e Q := fun S H ts vs σ r Q' k =>
  h S H ts vs σ r _ fun o v e1 S1 H1 r1 ⟨n, ns, hd, q⟩ => by
    obtain ⟨S2, s2, t, r2⟩ := R.freeze1 r1 n
    rw [hd] at t
    have t' := t
    simp only [Rep] at t
    obtain ⟨p, xs, rfl, a1, a2⟩ := t
    refine ⟨.inl ⟨rfl, xs, .of (r2.sub _ _ a1)⟩, q S2 H1 _ _ σ (r2.push t') _ fun os us e2 S3 H3 r3 l ⟨z, e3, hz, q2⟩ => ?_⟩
    subst e3
    obtain ⟨w, rfl⟩ := vals_one l
    have tw : w = V.int z := R.top r3
    subst tw
    have r4 := R.pop r3
    have t2 := R.top r4
    simp only [Rep] at t2
    obtain ⟨p', ys, e5, b1, b2⟩ := t2
    obtain rfl := V.ref.inj e5
    exact ⟨p, ns, z, rfl, rfl, .of (by rw [← reps_int b2]; exact r4.sub _ _ b1), hz, k _ _ _ _ _ (R.push (d := .int _) (R.pop r4) rfl) q2⟩
theorem we_indexT {te : TE} {ta : TA} (h : WE c te e fun o e1 => nobx o = true ∧ ∃ ns : List Int, toD o = .tup (ns.map D.int) ∧ WA c ta e1 fun os e2 => ∃ k : Int, os = [.sh (.int k)] ∧ k ∈ ns ∧ Q (.sh (.int (ns.idxOf k : Nat))) e2) : WE c (tBMT (rIndexT c.K) te ta) e Q := fun S H ts vs σ r Q' k =>
  h S H ts vs σ r _ fun o v e1 S1 H1 r1 ⟨n, ns, hd, q⟩ => by
    obtain ⟨S2, s2, t, r2⟩ := R.freeze1 r1 n
    rw [hd] at t
    have t' := t
    simp only [Rep] at t
    obtain ⟨p, xs, ob, rfl, a1, a0, a2⟩ := t
    refine ⟨⟨p, ob, xs, rfl, r2.sub _ _ a1, a0⟩, q S2 H1 _ _ σ (r2.push t') _ fun os us e2 S3 H3 r3 l ⟨z, e3, hz, q2⟩ => ?_⟩
    subst e3
    obtain ⟨w, rfl⟩ := vals_one l
    have tw : w = V.int z := R.top r3
    subst tw
    have r4 := R.pop r3
    have t2 := R.top r4
    simp only [Rep] at t2
    obtain ⟨p', ys, ob2, e5, b1, b0, b2⟩ := t2
    obtain rfl := V.ref.inj e5
    exact ⟨p, ns, z, rfl, rfl, by rw [← reps_int b2]; exact tupQ r4.sub b1, hz, k _ _ _ _ _ (R.push (d := .int _) (R.pop r4) rfl) q2⟩
theorem wc_maxI {ns : List Int} (n1 : nobx o1 = true) (h : toD o1 = .lst (ns.map D.int) ∨ toD o1 = .tup (ns.map D.int)) (hn : 0 < ns.length) (q : ∀ m, m ∈ ns → (∀ y, y ∈ ns → y ≤ m) → Q (.sh (.int m)) e) : WC c (rMaxX c.K) [o1] e Q := fun S H ts vs us σ r l Q' k => by
  obtain ⟨x, rfl⟩ := vals_one l
  obtain ⟨S', s, t1, r1⟩ := R.freeze1 r n1
  rcases h with h | h
  · rw [h] at t1
    simp only [Rep] at t1
    obtain ⟨p, xs, rfl, h1, h2⟩ := t1
    exact .inl ⟨p, ns, rfl, .inl (.of (by rw [← reps_int h2]; exact r1.sub _ _ h1)), hn, fun m a b => k _ _ _ _ _ (r1.push (d := .int _) rfl) (q m a b)⟩
  · rw [h] at t1
    simp only [Rep] at t1
    obtain ⟨p, xs, ob, rfl, h1, h0, h2⟩ := t1
    exact .inl ⟨p, ns, rfl, .inr (by rw [← reps_int h2]; exact tupQ r1.sub h1), hn, fun m a b => k _ _ _ _ _ (r1.push (d := .int _) rfl) (q m a b)⟩
theorem reps_pairs {K : PySem.W.Frag} {S : Hp} : ∀ {ps : List (Int × Int)} {us : List V}, Reps K S (ps.map fun p => D.tup [.int p.1, .int p.2]) us → ∃ qs : List (Addr × Int × Int), us = qs.map (fun q => V.ref q.1) ∧ qs.map (·.2) = ps ∧ ∀ q ∈ qs, ∃ ob : Obj, S q.1 = some (.frz ob (.tup [.int q.2.1, .int q.2.2])) ∧ ob.dict = none
  | [], us, h => by
    simp only [List.map_nil, Reps] at h
    exact ⟨[], h, rfl, by simp⟩
  | p :: ps, us, h => by
    simp only [List.map_cons, Reps, Rep] at h
    obtain ⟨v, r, rfl, ⟨a, vs, ob, rfl, h1, h0, v1, r1, rfl, rfl, v2, r2, rfl, rfl, rfl⟩, h2⟩ := h
    obtain ⟨qs, e1, e2, e3⟩ := reps_pairs h2
    refine ⟨(a, p) :: qs, by rw [e1]; rfl, by rw [List.map_cons, e2], fun q hq => ?_⟩
    rcases List.mem_cons.mp hq with rfl | hq
    · exact ⟨ob, h1, h0⟩
    · exact e3 q hq
theorem wc_maxP {ps : List (Int × Int)} (n1 : nobx o1 = true) (h : toD o1 = .lst (ps.map fun p => D.tup [.int p.1, .int p.2])) (hn : 0 < ps.length) (q : ∀ m, m ∈ ps → (∀ y, y ∈ ps → lexGt y m = false) → Q (.sh (.tup [.int m.1, .int m.2])) e) : WC c (rMaxX c.K) [o1] e Q := fun S H ts vs us σ r l Q' k => by
  obtain ⟨x, rfl⟩ := vals_one l
  obtain ⟨S', s, t1, r1⟩ := R.freeze1 r n1
  rw [h] at t1
  simp only [Rep] at t1
  obtain ⟨p, xs, rfl, h1, h2⟩ := t1
  obtain ⟨qs, e1, e2, e3⟩ := reps_pairs h2
  refine .inr ⟨p, qs, rfl, by rw [← e1]; exact r1.sub _ _ h1, fun z hz => (e3 z hz).elim fun ob ho => tupQ r1.sub ho.1, by rw [← e2, List.length_map] at hn; exact hn, fun z hz top => ?_⟩
  refine k (.sh (.tup [.int z.2.1, .int z.2.2])) _ _ _ _ (r1.push ?_) (q z.2 (by rw [← e2]; exact List.mem_map_of_mem hz) fun y hy => ?_)
  · simp only [Rep, Reps]
    obtain ⟨ob, ho, ho0⟩ := e3 z hz
    exact ⟨z.1, _, ob, rfl, ho, ho0, _, _, rfl, rfl, _, _, rfl, rfl, rfl⟩
  · rw [← e2] at hy
    obtain ⟨w, hw, rfl⟩ := List.mem_map.mp hy
    exact top w hw
theorem wc_set {ns : List Int} (n1 : nobx o1 = true) (h : toD o1 = .lst (ns.map D.int) ∨ toD o1 = .tup (ns.map D.int)) (hn : ns.length ≤ 1000) (q : Q (.sh (.set ns)) e) : WC c (rSetX c.K) [o1] e Q := fun S H ts vs us σ r l Q' k => by
  obtain ⟨x, rfl⟩ := vals_one l
  obtain ⟨S', s, t1, r1⟩ := R.freeze1 r n1
  have fin : ∀ p n, H p = none → n ≤ ns.length → Q' (.ref p) (upd H p (.set (fun k => decide (k ∈ ns)) n)) := fun p n hp hn => by
    obtain ⟨r2, s2⟩ := r1.share (u := .set (fun k => decide (k ∈ ns)) n) hp
    refine k (.sh (.set ns)) _ _ _ _ (r2.push ?_) q
    simp only [Rep]
    exact ⟨p, n, rfl, upd_same⟩
  rcases h with h | h
  · rw [h] at t1
    simp only [Rep] at t1
    obtain ⟨p, xs, rfl, h1, h2⟩ := t1
    exact ⟨p, ns, rfl, .inl (.of (by rw [← reps_int h2]; exact r1.sub _ _ h1)), hn, fin⟩
  · rw [h] at t1
    simp only [Rep] at t1
    obtain ⟨p, xs, ob, rfl, h1, h0, h2⟩ := t1
    exact ⟨p, ns, rfl, .inr (by rw [← reps_int h2]; exact tupQ r1.sub h1), hn, fin⟩
theorem wr_inS {k : Int} {ns : List Int} (q : Q (.sh (.bl (decide (k ∈ ns)))) e) : WR c (rInX c.K) (.sh (.int k)) (.sh (.set ns)) e Q := fun S H ts vs x y σ r Q' kk => by
  obtain ⟨S', s, t1, t2, r1⟩ := r.freeze2 rfl rfl
  simp only [toD, Rep] at t1 t2
  obtain ⟨p, n, rfl, h2⟩ := t2
  exact .inr (.inr ⟨k, p, _, n, t1, rfl, r1.sub _ _ h2, kk _ _ _ _ _ (r1.push (d := .bl _) rfl) q⟩)
theorem wr_niS {k : Int} {ns : List Int} (q : Q (.sh (.bl (!decide (k ∈ ns)))) e) : WR c (rNiX c.K) (.sh (.int k)) (.sh (.set ns)) e Q := fun S H ts vs x y σ r Q' kk => by
  obtain ⟨S', s, t1, t2, r1⟩ := r.freeze2 rfl rfl
  simp only [toD, Rep] at t1 t2
  obtain ⟨p, n, rfl, h2⟩ := t2
  exact .inr (.inr ⟨k, p, _, n, t1, rfl, r1.sub _ _ h2, kk _ _ _ _ _ (r1.push (d := .bl _) rfl) q⟩)
theorem inV_ints (k : Int) (ns : List Int) : inV (.int k) (ns.map V.int) = decide (k ∈ ns) := by
  unfold inV
  rw [List.any_map, Bool.eq_iff_iff]
  simp only [List.any_eq_true, Function.comp, decide_eq_true_eq]
  constructor
  · rintro ⟨x, hx, hq⟩
    have : x = k := by simpa [eqV] using hq
    exact this ▸ hx
  · exact fun h => ⟨k, h, by simp [eqV]⟩
theorem flat_ints (ns : List Int) : (ns.map V.int).all flatV = true := by
  rw [List.all_map]
  exact List.all_eq_true.mpr fun _ _ => rfl
theorem wr_inI {k : Int} {ns : List Int} (n2 : nobx o2 = true) (h : toD o2 = .lst (ns.map D.int) ∨ toD o2 = .tup (ns.map D.int)) (q : Q (.sh (.bl (decide (k ∈ ns)))) e) : WR c (rInX c.K) (.sh (.int k)) o2 e Q := fun S H ts vs x y σ r Q' kk => by
  obtain ⟨S', s, t1, t2, r1⟩ := r.freeze2 rfl n2
  simp only [toD, Rep] at t1
  subst t1
  rcases h with h | h
  · rw [h] at t2
    simp only [Rep] at t2
    obtain ⟨p, xs, rfl, h1, h2⟩ := t2
    obtain rfl := reps_int h2
    refine .inr (.inl ⟨p, _, rfl, .inl (.of (r1.sub _ _ h1)), rfl, flat_ints ns, ?_⟩)
    rw [if_neg Bool.false_ne_true, inV_ints]
    exact kk _ _ _ _ _ (r1.push (d := .bl _) rfl) q
  · rw [h] at t2
    simp only [Rep] at t2
    obtain ⟨p, xs, ob, rfl, h1, h0, h2⟩ := t2
    obtain rfl := reps_int h2
    refine .inr (.inl ⟨p, _, rfl, .inr (tupQ r1.sub h1), rfl, flat_ints ns, ?_⟩)
    rw [if_neg Bool.false_ne_true, inV_ints]
    exact kk _ _ _ _ _ (r1.push (d := .bl _) rfl) q
theorem wr_niI {k : Int} {ns : List Int} (n2 : nobx o2 = true) (h : toD o2 = .lst (ns.map D.int) ∨ toD o2 = .tup (ns.map D.int)) (q : Q (.sh (.bl (!decide (k ∈ ns)))) e) : WR c (rNiX c.K) (.sh (.int k)) o2 e Q := fun S H ts vs x y σ r Q' kk => by
  obtain ⟨S', s, t1, t2, r1⟩ := r.freeze2 rfl n2
  simp only [toD, Rep] at t1
  subst t1
  rcases h with h | h
  · rw [h] at t2
    simp only [Rep] at t2
    obtain ⟨p, xs, rfl, h1, h2⟩ := t2
    obtain rfl := reps_int h2
    refine .inr (.inl ⟨p, _, rfl, .inl (.of (r1.sub _ _ h1)), rfl, flat_ints ns, ?_⟩)
    rw [if_pos rfl, inV_ints]
    exact kk _ _ _ _ _ (r1.push (d := .bl _) rfl) q
  · rw [h] at t2
    simp only [Rep] at t2
    obtain ⟨p, xs, ob, rfl, h1, h0, h2⟩ := t2
    obtain rfl := reps_int h2
    refine .inr (.inl ⟨p, _, rfl, .inr (tupQ r1.sub h1), rfl, flat_ints ns, ?_⟩)
    rw [if_pos rfl, inV_ints]
    exact kk _ _ _ _ _ (r1.push (d := .bl _) rfl) q
def reprD (d : D) : Str := (toPy d).shown
theorem wc_repr (n1 : nobx o1 = true) (ns : noset (toD o1) = true) (sw : (toPy (toD o1)).showable = true) (nd : (toPy (toD o1)).hasDict = false) (dp : (toPy (toD o1)).depth ≤ 50) (l : (reprD (toD o1)).length ≤ sizeLine) (q : Q (.sh (.str (reprD (toD o1)))) e) : WC c (rRepr c.K) [o1] e Q := fun S H ts vs us σ r ll Q' k => by
  obtain ⟨x, rfl⟩ := vals_one ll
  obtain ⟨S', s, t1, r1⟩ := R.freeze1 r n1
  exact ⟨x, _, rfl, Rep.dp r1.sub _ _ ns t1, sw, nd, dp, l, k _ _ _ _ _ (r1.push (d := .str _) rfl) q⟩
end
end TX
end

section
namespace TX
open PySem PySem.Spec PyProof.Rows L2
/-! ### the law's head, by a promise that tells the guards -/
theorem head_call {P : Program} {w : World} {K : PySem.W.Frag} {mg mb : Str → Option Value} {k : Nat} {fa a : Addr} {fd : FuncData} {x : Str} {sp : Sp} {t0 : Shared} {items : List Value} {ns : List Int}
    (KX : K.In t0.heap) (hns : t0.heap.Ns mainGlobals mg) (hb : t0.heap.Ns builtinsNs mb) (hbb : ∀ x : Str, x ≠ "__name__" → mb x = bootBuiltins x) (hlim : t0.heap.NoLimit) (hg : t0.gens = #[])
    (ha : t0.heap.get? a = some { cls := .type "list", data := .seq items.toArray }) (hi : IntsAre items ns) (hl : ns.length ≤ sizeLine) (hr : Room k callerA)
    (F : ∀ base : Heap, K.In base → base.Ns mainGlobals mg → FnG P w K mg base CX0 k fa fd [x] sp) (hbind : ∀ (s : Shared) (u : Value), BindsTo s fd ⟨[u], []⟩ [(x, u)])
    (hsp : ∀ H : Hp, Only H → SqL K H a (ns.map V.int) → sp [.ref a] H (fun v _ => v = .bl true) fun _ _ _ => False) :
    codeAny (model P w) callerA (.call (.ref fa) ⟨[.ref a], []⟩) (fun r t => r = .ok (.ret (.bool true)) ∧ OldK t0.heap t.heap ∧ t.os = t0.os ∧ AllBare t.gens) t0 := by
  have rv := vals_ints hi
  -- H0: nothing is tracked but the script
  suffices core : ∃ H0 : Hp, Only H0 ∧ SqL K H0 a (ns.map V.int) ∧ HOk P w H0 t0.heap ∧ (∀ b, H0 b ≠ none → b = a) ∧ (H0 a ≠ none → K.lookup a = none) by
    obtain ⟨H0, o1, o2, o3, o4, o5⟩ := core
    have see : ∀ {b : Addr} {o : Obj}, t0.heap.get? b = some o → H0 b = none → (hidT t0.heap H0).get? b = some o := fun q1 q2 => hidT_get q1 q2
    have free : ∀ {b : Addr} {o : Obj}, t0.heap.get? b = some o → (b = a → H0 a = none ∨ False) → H0 b = none := fun {b o} _ q => by
      by_cases z : H0 b = none
      · exact z
      · have := o4 b z
        subst this
        exact (q rfl).elim (fun y => y) False.elim
    have names : ∀ {b : Addr} {m : Str → Option Value}, t0.heap.Ns b m → (hidT t0.heap H0).Ns b m := by
      rintro b m ⟨o, es, ep, q1, q2, q3⟩
      refine ⟨o, es, ep, see q1 ?_, q2, q3⟩
      by_cases z : H0 b = none
      · exact z
      · have w := o4 b z
        rw [w, ha] at q1
        have := Option.some.inj q1
        subst this
        cases q2
    have kin : K.In (hidT t0.heap H0) := fun b o q => by
      refine see (KX b o q) ?_
      by_cases z : H0 b = none
      · exact z
      · have w := o4 b z
        rw [w] at q z
        rw [o5 z] at q
        cases q
    have md : Mod K mg (hidT t0.heap H0) := ⟨kin, names hns, ⟨mb, names hb, hbb⟩, hlim.elim fun mc q => ⟨mc, names q.1, q.2⟩⟩
    have env : Env0 P w K mg (hidT t0.heap H0) callerA [] t0 H0 := by
      refine ⟨rfl, md, fun b o q => of_hidT q, ?_, trivial, ?_, o3, ?_⟩
      · rw [hidT_size]
        exact Nat.le_refl _
      · intro b q
        cases (show b ∈ ([] : List Addr) from q)
      · exact .of_eq hg
    have go := (F _ kin (names hns)).run callerA [] t0 H0 ⟨[.ref a], []⟩ [.ref a] [.ref a] _ _ rfl hr env (hbind t0 (.ref a)) (.cons rfl .nil) (hsp H0 o1 o2)
    refine codeAny_mono go fun res t q => ?_
    match res, q with
    | .error _, q => exact q.elim
    | .ok (.ret u), ⟨v, H1, os, bare, un, ok, rel, ev⟩ =>
      dsimp only at ev
      subst ev
      have eu : u = .bool true := rel
      subst eu
      refine ⟨rfl, OldK.of_keep fun b o q => ?_, os, bare⟩
      by_cases z : H0 b = none
      · refine un.keep b o q z (fun m => ?_) ?_
        · cases (show b ∈ ([] : List Addr) from m)
        · simp
      · rcases o1 b with y | ⟨ob, xs, y⟩
        · exact absurd y z
        · have e1 := (o3 b _ y).1
          have e2 := (ok b _ (un.frzs b ob _ y)).1
          rw [q] at e1
          rw [e2, e1]
  have lenV := hi.length
  by_cases kl : K.lookup a = none
  · let H0 : Hp := fun b => if b = a then some (.frz { cls := .type "list", data := .seq items.toArray } (.lst (ns.map V.int))) else none
    have h0 : H0 a = some (.frz { cls := .type "list", data := .seq items.toArray } (.lst (ns.map V.int))) := if_pos rfl
    have hn : ∀ b, b ≠ a → H0 b = none := fun b q => if_neg q
    refine ⟨H0, fun b => ?_, .inl (.inr ⟨_, h0⟩), fun b u q => ?_, fun b q => ?_, fun _ => kl⟩
    · by_cases z : b = a
      · rw [z]
        exact .inr ⟨_, _, h0⟩
      · exact .inl (hn b z)
    · by_cases z : b = a
      · subst z
        rw [h0] at q
        cases q
        refine ⟨ha, ?_, items, 0, rv, ha⟩
        rw [List.length_map]
        exact hl
      · rw [hn b z] at q
        cases q
    · exact Classical.byContradiction fun z => q (hn b z)
  · cases q : K.lookup a with
    | none => exact absurd q kl
    | some o =>
      have e := KX a o q
      rw [ha] at e
      cases e
      refine ⟨fun _ => none, fun _ => .inl rfl, .inr ⟨_, items.toArray, _, q, rfl, rfl, rfl, ?_, by simpa using rv⟩, fun b u z => ?_, fun b z => absurd rfl z, fun z => absurd rfl z⟩
      · rw [List.size_toArray, lenV]
        exact hl
      · cases (show (none : Option HO) = some u from z)
theorem head_of {l : PySem.W.OpenLaw} {n k : Nat} {q : Program} {loose : List Str} {XP : (Str → Option Value) → Heap → Prop} {YP : World → Heap → Prop} {d : DefRec} {K : Params → PySem.W.Frag} {sp : World → Sp} {x : Str}
    (hn : l.most = some n) (hn2 : n ≤ sizeLine) (hdf : d.params.defaults = []) (hr : Room k callerA) (hY : ∀ (w : World) (h : Heap), YP w h → (K w.params).In h)
    (F : ∀ (w : World) (mg : Str → Option Value) (fa : Addr) (h : Heap), (K w.params).In h → h.Ns mainGlobals mg → mg d.name = some (.ref fa) →
      ∃ fd : FuncData, (∀ (s : Shared) (u : Value), BindsTo s fd ⟨[u], []⟩ [(x, u)]) ∧ ∀ base : Heap, (K w.params).In base → base.Ns mainGlobals mg → FnG l.prog w (K w.params) mg base CX0 k fa fd [x] (sp w))
    (hsp : ∀ (w : World) (H : Hp) (a : Addr) (ns : List Int), ns.length ≤ n → Only H → SqL (K w.params) H a (ns.map V.int) → sp w [.ref a] H (fun v _ => v = .bl true) fun _ _ _ => False) :
    PySem.W.WalkO q loose XP YP l.row.toRowW d [] (fun f vs => PySem.call f vs) := by
  refine Att.attach_call hn hdf fun w s0 t0 mg mb fa o pm cd doc a items ns G Y ho hd hcd hmg hobj hints hlen hg => ?_
  have KX := hY w _ Y
  obtain ⟨fd, hb, hF⟩ := F w mg fa _ KX G.T.g hmg
  exact head_call KX G.T.g G.T.b G.T.builtins G.T.nolimit hg hobj hints (Nat.le_trans hlen hn2) hr hF hb fun H h1 h2 => hsp w H a ns hlen h1 h2
end TX
end

section
/-! The same rules, once more, in the shape in which they are tried one after another. -/
namespace TX
open PySem PySem.Spec PyProof.Rows L2
section
variable {c : Ct} {e : Env} {Q : O → Env → Prop} {sl : List (Option O)} {g : Nat}
theorem we_ci {i : Int} (q : Q (.sh (.int i)) e) : WE c (tC (.int i)) e Q := we_c (v := .int i) q rfl
theorem we_cl {b : Bool} (q : Q (.sh (.bl b)) e) : WE c (tC (.bl b)) e Q := we_c (v := .bl b) q rfl
theorem we_cs {b : Str} (q : Q (.sh (.str b)) e) : WE c (tC (.str b)) e Q := we_c (v := .str b) q rfl
theorem we_cn (q : Q (.sh .non) e) : WE c (tC .non) e Q := we_c (v := .non) q rfl
theorem wr_I0i {f : Int → Int → Int} {i j : Int} (q : Q (.sh (.int (f i j))) e) : WR c (rI0 fun i j => .int (f i j)) (.sh (.int i)) (.sh (.int j)) e Q := wr_I0 (g := fun i j => V.int (f i j)) q rfl
theorem wr_I0b {f : Int → Int → Bool} {i j : Int} (q : Q (.sh (.bl (f i j))) e) : WR c (rI0 fun i j => .bl (f i j)) (.sh (.int i)) (.sh (.int j)) e Q := wr_I0 (g := fun i j => V.bl (f i j)) q rfl
theorem wr_mod {i j : Int} (h : 0 < j) (q : Q (.sh (.int (i % j))) e) : WR c (rI (fun _ j => 0 < j) fun i j => .int (i % j)) (.sh (.int i)) (.sh (.int j)) e Q := wr_I h q rfl
theorem wr_div {i j : Int} (h : 0 < j) (h2 : j < 1073741824) (q : Q (.sh (.int (i / j))) e) : WR c (rI CDiv fun i j => .int (i / j)) (.sh (.int i)) (.sh (.int j)) e Q := wr_I ⟨h, h2⟩ q rfl
theorem wr_pow {i j : Int} (h : 0 ≤ j) (h2 : j ≤ 1000000) (h3 : i.natAbs < 2 ^ 64) (q : Q (.sh (.int (i ^ j.toNat))) e) : WR c (rI CPow fun i j => .int (i ^ j.toNat)) (.sh (.int i)) (.sh (.int j)) e Q := wr_I ⟨h, h2, h3⟩ q rfl
theorem wu_neg {i : Int} (q : Q (.sh (.int (-i))) e) : WU c (rU fun i => .int (-i)) (.sh (.int i)) e Q := wu_I q rfl
/-- what is known of a test decides the road -/
theorem ite_go {A B : Prop} {b : Bool} (h1 : b = true → A) (h2 : b = false → B) : if b = true then A else B := by
  cases b with
  | true => exact (if_pos rfl).mpr (h1 rfl)
  | false => exact (if_neg Bool.false_ne_true).mpr (h2 rfl)
theorem ex_bl {B : Bool → Prop} {b : Bool} (h : B b) : ∃ b', O.sh (.bl b) = .sh (.bl b') ∧ B b' := ⟨b, rfl, h⟩
end
end TX
end

section
/-! Values of few levels: they may be compared. -/
namespace TX
open PySem PySem.Spec PyProof.Rows L2
def flatN : Nat → D → Bool
  | _, .non => true
  | _, .bl _ => true
  | _, .int _ => true
  | _, .str x => x.cps.all (· < 0x110000)
  | n + 1, .lst ds => ds.all (flatN n)
  | n + 1, .tup ds => ds.all (flatN n)
  | n + 1, .raw ds => ds.all (flatN n)
  | _, _ => false
theorem flat_ok : ∀ (n : Nat) (d : D), flatN n d = true → noset d = true ∧ (toPy d).canLay0 = true ∧ (toPy d).depth ≤ n + 1 := by
  have many : ∀ (n : Nat), (∀ d : D, flatN n d = true → noset d = true ∧ (toPy d).canLay0 = true ∧ (toPy d).depth ≤ n + 1) → ∀ ds : List D, ds.all (flatN n) = true → nosets ds = true ∧ PyData.canLayAll0 (toPys ds) = true ∧ PyData.depthAll (toPys ds) ≤ n + 1 := by
    intro n ih ds
    induction ds with
    | nil => intro _; simp [nosets, toPys, PyData.canLayAll0, PyData.depthAll]
    | cons d ds ih2 =>
      intro h
      rw [List.all_cons, Bool.and_eq_true] at h
      obtain ⟨a1, a2, a3⟩ := ih d h.1
      obtain ⟨b1, b2, b3⟩ := ih2 h.2
      simp only [nosets, toPys, PyData.canLayAll0, PyData.depthAll, a1, a2, b1, b2, Bool.and_self, true_and]
      omega
  intro n
  induction n with
  | zero =>
    intro d h
    cases d <;> simp_all [flatN, noset, toPy, PyData.canLay0, PyData.strOk, PyData.depth]
  | succ n ih =>
    intro d h
    cases d with
    | lst ds =>
      obtain ⟨h1, h2, h3⟩ := many n ih ds (by simpa [flatN] using h)
      simp only [noset, toPy, PyData.canLay0, PyData.depth, h1, h2, true_and]
      omega
    | tup ds =>
      obtain ⟨h1, h2, h3⟩ := many n ih ds (by simpa [flatN] using h)
      simp only [noset, toPy, PyData.canLay0, PyData.depth, h1, h2, true_and]
      omega
    | raw ds =>
      obtain ⟨h1, h2, h3⟩ := many n ih ds (by simpa [flatN] using h)
      simp only [noset, toPy, PyData.canLay0, PyData.depth, h1, h2, true_and]
      omega
    | _ => simp_all [flatN, noset, toPy, PyData.canLay0, PyData.strOk, PyData.depth]
theorem flat_okD {n : Nat} {d : D} (h : flatN n d = true) (hn : n ≤ 60) : okD d = true := by
  obtain ⟨h1, h2, h3⟩ := flat_ok n d h
  unfold okD SeqAt.shaped
  rw [h1, h2, decide_eq_true (by omega : (toPy d).depth ≤ 64)]
  rfl
theorem eqv_nil (ds : List D) : D.eqv (.lst ds) (.lst []) = ds.isEmpty := by
  cases ds with
  | nil => simp [D.eqv, toPy, toPys, PyData.eqv, PyData.eqvAll]
  | cons d ds => simp [D.eqv, toPy, toPys, PyData.eqv, PyData.eqvAll]
theorem eqv_int (i j : Int) : D.eqv (.int i) (.int j) = decide (i = j) := by
  simp only [D.eqv, toPy, PyData.eqv]
  by_cases h : i = j
  · subst h
    simp
  · simp [h]
section
variable {c : Ct} {e : Env} {Q : O → Env → Prop}
theorem wr_eqI {i j : Int} (q : Q (.sh (.bl (decide (i = j)))) e) : WR c (rEqD c.K) (.sh (.int i)) (.sh (.int j)) e Q := wr_eqD rfl rfl (flat_okD (n := 0) rfl (by decide)) (flat_okD (n := 0) rfl (by decide)) (by
  show Q (.sh (.bl (D.eqv (.int i) (.int j)))) e
  rw [eqv_int]
  exact q)
theorem wr_neI {i j : Int} (q : Q (.sh (.bl (!decide (i = j)))) e) : WR c (rNeD c.K) (.sh (.int i)) (.sh (.int j)) e Q := wr_neD rfl rfl (flat_okD (n := 0) rfl (by decide)) (flat_okD (n := 0) rfl (by decide)) (by
  show Q (.sh (.bl (!D.eqv (.int i) (.int j)))) e
  rw [eqv_int]
  exact q)
theorem wr_eqB {i j : Bool} (q : Q (.sh (.bl (i == j))) e) : WR c (rEqD c.K) (.sh (.bl i)) (.sh (.bl j)) e Q := wr_eqD rfl rfl (flat_okD (n := 0) rfl (by decide)) (flat_okD (n := 0) rfl (by decide)) (by
  show Q (.sh (.bl (D.eqv (.bl i) (.bl j)))) e
  rw [show D.eqv (.bl i) (.bl j) = (i == j) by simp [D.eqv, toPy, PyData.eqv]]
  exact q)
theorem wr_neB {i j : Bool} (q : Q (.sh (.bl (!(i == j)))) e) : WR c (rNeD c.K) (.sh (.bl i)) (.sh (.bl j)) e Q := wr_neD rfl rfl (flat_okD (n := 0) rfl (by decide)) (flat_okD (n := 0) rfl (by decide)) (by
  show Q (.sh (.bl (!D.eqv (.bl i) (.bl j)))) e
  rw [show D.eqv (.bl i) (.bl j) = (i == j) by simp [D.eqv, toPy, PyData.eqv]]
  exact q)
theorem nobx_ints (ns : List Int) : nobx (.lst ((ns.map D.int).map O.sh)) = true := by
  show nobxs _ = true
  exact nobxs_map _
theorem toD_ints (ns : List Int) : toD (.lst ((ns.map D.int).map O.sh)) = .lst (ns.map D.int) := by
  simp only [toD, toDs_map]
end
end TX
end

section
/-! The rules once more, with the written part told apart: within a comprehension's block the context is another one. -/
namespace TX
open PySem PySem.Spec PyProof.Rows L2
section
variable {X : Cx} {K : PySem.W.Frag}
theorem ixK (K : PySem.W.Frag) (h : X.K = K) : IxR X (rIx K) := by subst h; exact ix_seq
theorem slK (K : PySem.W.Frag) (h : X.K = K) : SlR X (rSlX K) := by subst h; exact sl_X
theorem addK (K : PySem.W.Frag) (h : X.K = K) : OpR X (binaryOp .Add) (rAddX K) := by subst h; exact op_addX
theorem eqK (K : PySem.W.Frag) (h : X.K = K) (hu : X.A.units + 64 < cLine) : OpR X (compareOp .Eq) (rEqD K) := by subst h; exact op_eqD hu
theorem neK (K : PySem.W.Frag) (h : X.K = K) (hu : X.A.units + 64 < cLine) : OpR X (compareOp .NotEq) (rNeD K) := by subst h; exact op_neD hu
theorem inK (K : PySem.W.Frag) (h : X.K = K) (hu : X.A.units + 65 < cLine) : OpR X (compareOp .In) (rInX K) := by subst h; exact op_inX hu
theorem niK (K : PySem.W.Frag) (h : X.K = K) (hu : X.A.units + 65 < cLine) : OpR X (compareOp .NotIn) (rNiX K) := by subst h; exact op_niX hu
theorem lenK (K : PySem.W.Frag) (h : X.K = K) : CallR X (.builtin "len") (rLenX K) := by subst h; exact cr_len
theorem listK (K : PySem.W.Frag) (h : X.K = K) : CallR X (.type "list") (rListOf K) := by subst h; exact cr_list
theorem tupleK (K : PySem.W.Frag) (h : X.K = K) : CallR X (.type "tuple") (rTupOf K) := by subst h; exact cr_tuple
theorem allK (K : PySem.W.Frag) (h : X.K = K) (hc : X.calm = true) : CallR X (.builtin "all") (rAll K) := by subst h; exact cr_all hc
theorem anyK (K : PySem.W.Frag) (h : X.K = K) (hc : X.calm = true) : CallR X (.builtin "any") (rAny K) := by subst h; exact cr_any hc
theorem sumK (K : PySem.W.Frag) (h : X.K = K) (hc : X.calm = true) : CallR X (.builtin "sum") (rSum K) := by subst h; exact cr_sum hc
theorem maxK (K : PySem.W.Frag) (h : X.K = K) (hc : X.calm = true) (hu : X.A.units + 65 < cLine) : CallR X (.builtin "max") (rMaxX K) := by subst h; exact cr_maxX hc hu
theorem setK (K : PySem.W.Frag) (h : X.K = K) (hc : X.calm = true) : CallR X (.type "set") (rSetX K) := by subst h; exact cr_setX hc
theorem reprK (K : PySem.W.Frag) (h : X.K = K) (hg : X.A.guards = some []) (hu : X.A.units + 65 < cLine) : CallR X (.builtin "repr") (rRepr K) := by subst h; exact cr_repr hg hu
theorem isiK (K : PySem.W.Frag) (h : X.K = K) : CallR X (.builtin "isinstance") (rIsi K) := by subst h; exact call_isi
theorem isiTK (K : PySem.W.Frag) (h : X.K = K) : CallR X (.builtin "isinstance") (rIsiT K) := by subst h; exact call_isiT
theorem indexIK (K : PySem.W.Frag) (h : X.K = K) : MtR X "list.index" (rIndexI K) := by subst h; exact mt_indexI
theorem indexTK (K : PySem.W.Frag) (h : X.K = K) : MtR X "tuple.index" (rIndexT K) := by subst h; exact mt_indexT
theorem pg_tupK (K : PySem.W.Frag) (h : X.K = K) {es : List Expr} {k : Nat} {t : TGs} {n : Nat} {pos : Pos} (hc : X.calm = true) (hh : PGs X es t)
    (hn : (assignEach es X.env).length = n := by rfl) (hst : (assignEach es X.env).findIdx? (·.1) = none := by rfl) : PG X (.Tuple es k pos) (gTup K n t) := by subst h; exact pg_tup hc hh hn hst
theorem pi_seqK (K : PySem.W.Frag) (h : X.K = K) {tg l : Expr} {tl : TE} (hl : PE X l tl) : PI X tg l (iSeq K tl) := by subst h; exact pi_seq hl
section
variable {c : Ct} {e : Env} {Q : O → Env → Prop}
theorem we_isiv {n : String} {i : Nat} {d : D} (h : e.sl[i]? = some (some (.sh d))) (f : fiveT n = true) (q : Q (.sh (.bl (isiT (tyD d) n))) e) : WE c (tCB (rIsi c.K) (tCons (tVar i) (tCons (tC (.ty n)) tNil))) e Q :=
  we_isi (we_var h ⟨rfl, q⟩) f
theorem we_isiv2 {n m : String} {i : Nat} {d : D} (h : e.sl[i]? = some (some (.sh d))) (f : fiveT n = true) (f2 : fiveT m = true) (q : Q (.sh (.bl (isiT (tyD d) n || isiT (tyD d) m))) e) : WE c (tCB (rIsiT c.K) (tCons (tVar i) (tCons (tTup (tCons (tC (.ty n)) (tCons (tC (.ty m)) tNil))) tNil))) e Q :=
  we_isi2 (we_var h ⟨rfl, q⟩) f f2
theorem ws_asgT2 {ta : TA} {i j : Nat} {P : Post} (hf : ∀ l ∈ [i, j], l ∉ c.fx) (h : WA c ta e fun os e1 => os.length = 2 ∧ P.nx ⟨setAll e1.sl [i, j] os, e1.g⟩) : WS c (tAsg (tTup ta) (gTup c.K 2 (gCons (gName i) (gCons (gName j) gNil)))) e P := ws_asgT (is := [i, j]) h rfl (show 2 ≤ 1000 by decide) hf
/-- .append on a list that stands in a list that a name holds alone -/
theorem we_appAt {i j : Nat} {k : Int} {ti : TE} {ta : TA} {os ls : List O} {d : D} (h : e.sl[i]? = some (some (.lst os))) (hj : ixN os.length k = some j) (ho : os[j]? = some (.lst ls)) (hk : ∀ σ H (Q : VK), Q (.int k) H → ti σ H Q)
    (ha : ∀ S H ts vs σ, R c S H ts vs e σ → ∃ v, Rep c.K S d v ∧ ∀ Q : List V → Hp → Prop, Q [v] H → ta σ H Q) (hl : ls.length < 100000) (q : Q (.sh .non) ⟨e.sl.set i (some (.lst (os.set j (.lst (ls ++ [.sh d]))))), e.g⟩) :
    WE c (tBM c.K "list" rAppend (tOp (rIx c.K) (tVar i) ti) ta) e Q := fun S H ts vs σ r Q' kk => by
  obtain ⟨w, hw, r1⟩ := r.out h
  obtain ⟨p, xs, g, ft, fe, rfl, hp, a1, a2, a3, a4⟩ := r1.openTop
  have ll : xs.length = os.length := a1.len
  have jl : j < os.length := (List.getElem?_eq_some_iff.mp ho).1
  have oj : os[j] = .lst ls := (List.getElem?_eq_some_iff.mp ho).2
  have eo : os.take j ++ (.lst ls :: os.drop (j + 1)) = os := by
    rw [← oj, ← List.drop_eq_getElem_cons jl, List.take_append_drop]
  have jx : j < xs.length := by omega
  have ex : xs.take j ++ (xs[j] :: xs.drop (j + 1)) = xs := by
    rw [← List.drop_eq_getElem_cons jx, List.take_append_drop]
  have a1' := a1
  rw [← eo, ← ex] at a1'
  obtain ⟨gA, gB, A1, B1, AB⟩ := RepOs.split a1' (by rw [List.length_take, List.length_take]; omega)
  simp only [RepOs] at B1
  obtain ⟨y, rest, g1, g2, e1, b2, b3, b4⟩ := B1
  obtain ⟨e2, rfl⟩ := List.cons.inj e1
  simp only [RepO] at b2
  obtain ⟨p2, ys, g3, rfl, c1, c2, c3⟩ := b2
  obtain ⟨v, hv, ta'⟩ := ha S H ts vs σ r
  have own : ∀ a, (if a = p then 1 else 0) + (gA a + ((if a = p2 then 1 else 0) + g3 a + g2 a)) + ft a + fe a ≤ 1 ∧ ((if a = p then 1 else 0) + (gA a + ((if a = p2 then 1 else 0) + g3 a + g2 a)) + ft a + fe a = 1 → S a = none ∧ (c.H_0 a = none ∨ c.bx a)) := fun a => by
    have q := a4 a
    rw [AB, b4, c3] at q
    exact q
  have own2 := own p2
  rw [if_pos rfl] at own2
  have np : p ≠ p2 := fun z => by
    rw [if_pos z.symm] at own2
    omega
  obtain ⟨s2, h2⟩ := own2.2 (by omega)
  have aty : atI xs k = some (.ref p2) := by
    unfold atI
    rw [ll, hj]
    show xs[j]? = _
    rw [List.getElem?_eq_getElem jx, e2]
  refine ⟨.ref p, hw, hk _ _ _ (.inl ⟨p, xs, k, _, rfl, rfl, .of hp, aty, ⟨.inl ⟨rfl, ys, .of c1⟩, ta' _ ⟨p2, ys, v, rfl, rfl, c1, ?_, ?_⟩⟩⟩)⟩
  · rw [c2.len]
    exact szl hl
  have un : ∀ a, a ≠ p2 → upd H p2 (.lst (ys ++ [v])) a = H a := fun a z => upd_ne z
  have app1 : RepOs c.K c.bx S H (ls ++ [.sh d]) (ys ++ [v]) (fun a => g3 a + 0) := RepOs.app c2 (by
    simp only [RepOs, RepO]
    exact ⟨v, [], fun _ => 0, fun _ => 0, rfl, ⟨hv, fun _ => rfl⟩, ⟨rfl, fun _ => rfl⟩, fun _ => rfl⟩)
  have off : ∀ a, (gA a ≠ 0 ∨ g3 a ≠ 0 ∨ g2 a ≠ 0 ∨ ft a ≠ 0 ∨ fe a ≠ 0) → a ≠ p2 := fun a z w => by
    subst w
    omega
  have rr : R c S (upd H p2 (.lst (ys ++ [v]))) (.lst (os.set j (.lst (ls ++ [.sh d]))) :: ts) (.ref p :: vs) ⟨e.sl.set i none, e.g⟩ σ := by
    refine ⟨⟨fun a => ((if a = p then 1 else 0) + (gA a + ((if a = p2 then 1 else 0) + g3 a + g2 a))) + ft a, fe, ?_, RepE.mono (Same.refl S) _ _ _ a3 fun a z => un a (off a (by omega)), own⟩, fun q o hq => ?_, r.ext, r.new, fun q o hq hb => ?_, dom_upd r.dom, r.fix⟩
    · simp only [RepOs, RepO]
      refine ⟨_, _, fun a => (if a = p then 1 else 0) + (gA a + ((if a = p2 then 1 else 0) + g3 a + g2 a)), ft, rfl, ⟨p, xs, fun a => gA a + ((if a = p2 then 1 else 0) + g3 a + g2 a), rfl, by rw [un p np]; exact hp, ?_, fun _ => rfl⟩, RepOs.mono (Same.refl S) _ _ _ a2 fun a z => un a (off a (by omega)), fun _ => rfl⟩
      have es : os.set j (.lst (ls ++ [.sh d])) = os.take j ++ (.lst (ls ++ [.sh d]) :: os.drop (j + 1)) := by rw [List.set_eq_take_append_cons_drop, if_pos jl]
      rw [es, ← ex, e2]
      refine RepOs.app (RepOs.mono (Same.refl S) _ _ _ A1 fun a z => un a (off a (by omega))) ?_
      simp only [RepOs, RepO]
      refine ⟨_, _, fun a => (if a = p2 then 1 else 0) + g3 a, g2, rfl, ⟨p2, ys ++ [v], g3, rfl, upd_same, ?_, fun _ => rfl⟩, RepOs.mono (Same.refl S) _ _ _ b3 fun a z => un a (off a (by omega)), fun _ => rfl⟩
      exact RepOs.mono (Same.refl S) _ _ _ app1 fun a z => un a (off a (by (try dsimp only at z); omega))
    · rw [un q fun z => by rw [z, s2] at hq; cases hq]
      exact r.sub _ _ hq
    · rw [un q fun z => by
        subst z
        rcases h2 with h2 | h2
        · rw [h2] at hq; cases hq
        · exact hb h2]
      exact r.fr q o hq hb
  have r5 := rr.inn (i := i) hw
  rw [show (e.sl.set i none).set i (some (.lst (os.set j (.lst (ls ++ [.sh d]))))) = e.sl.set i (some (.lst (os.set j (.lst (ls ++ [.sh d]))))) by rw [List.set_set]] at r5
  exact kk _ _ _ _ _ (r5.push (d := .non) rfl) q
end
end
end TX
end

section
namespace TX
open PySem PySem.Spec PyProof.Rows L2
section
variable {X : Cx}
/-- a statement that is not come to -/
theorem ps_dead {st : Stmt} : PS X st (fun _ _ _ => False) := ⟨fun _ _ _ _ _ _ h => h.elim⟩
/-! ### list(range(a, b, -1)) -/
def dnV (a b : Int) : List V := (List.range (a - b).toNat).map fun i => V.int (a - (i : Nat))
def dnOk (i j : Int) : Prop := -100000 ≤ i ∧ i ≤ 100000 ∧ -100000 ≤ j ∧ j ≤ 100000
def tLstDn (ta : TA) : TE := fun σ H Q => ta σ H fun xs H1 => ∃ i j : Int, xs = [.int i, .int j, .int (-1)] ∧ dnOk i j ∧ ∀ q, H1 q = none → Q (.ref q) (upd H1 q (.lst (dnV i j)))
theorem dn_vals {a b : Int} {acc : Array Value} (h : ItemsOf (fun i v => ∃ t, v = .int (a + i * (-1)) t) acc (a - b).toNat) : Vals (dnV a b) acc.toList := by
  have e : acc.toList.length = (a - b).toNat := (Array.length_toList).trans h.1
  unfold dnV
  rw [← e]
  have go : ∀ (j : Nat) (u : Value), acc.toList[j]? = some u → RelV (V.int (a - (j : Nat))) u := fun j u hj => by
    obtain ⟨t, q⟩ := h.2 j u ((Array.getElem?_toList).symm.trans hj)
    refine ⟨t, q.trans ?_⟩
    rw [Int.mul_neg_one, ← Int.sub_eq_add_neg]
  exact vals_of_get acc.toList _ go
theorem pe_listDn {a b d : Expr} {ta : TA} {p pos p2 pos2 : Pos} (hc : X.calm = true) (hg : Gl X "list") (hm : X.mg "list" = none) (hg2 : Gl X "range") (hm2 : X.mg "range" = none) (ha : PA X [a, b, d] ta)
    (hs : starEach [a, b, d] X.env = (false, eval a X.env) :: starEach [b, d] X.env := by rfl) (hpl : (backTo pos2 (starEach [b, d] X.env)).any (·.1) = false := by rfl)
    (na : starEach [Expr.Call (.Name "range" p2) [a, b, d] [] pos2] X.env = (false, eval (.Call (.Name "range" p2) [a, b, d] [] pos2) X.env) :: starEach [] X.env := by rfl) :
    PE X (.Call (.Name "list" p) [.Call (.Name "range" p2) [a, b, d] [] pos2] [] pos) (tLstDn ta) := by
  refine ⟨fun pins s σ H Q I h => ?_⟩
  have inner : wpAny (model X.prog X.w) X.A (eval (.Call (.Name "range" p2) [a, b, d] [] pos2) X.env) (fun x s' => ∃ (r : Addr) (i j : Int) (t u v : Tok) (H' : Hp), x = .ref r ∧ IsRange s'.heap r i j (-1) t u v ∧ Inv X pins σ H' s' ∧ dnOk i j ∧ ∀ q, H' q = none → Q (.ref q) (upd H' q (.lst (dnV i j)))) X.xe s := by
    refine Call_ (ld_blt I hg2 hm2 boot_range (PyProof.Rows.callWith_type1 (thn (ha.run pos2 pins s σ H _ I h) fun us s1 ⟨vs, H1, I1, r1, i, j, e, bd, q⟩ => ?_) hs hpl))
    subst e
    cases r1 with
    | cons r rest =>
      cases rest with
      | cons r' rest =>
        cases rest with
        | cons r'' rest =>
          cases rest
          obtain ⟨t, rfl⟩ := r
          obtain ⟨t', rfl⟩ := r'
          obtain ⟨t'', rfl⟩ := r''
          obtain ⟨b1, b2, b3, b4⟩ := bd
          refine call_range_3 (by decide) ?_ (.inl (PyProof.noPylong_small (by decide)))
          exact ⟨_, i, j, t, t', t'', H1, rfl, IsRange.new .., I1.kept fun b u e => Heap.get?_push_of_some _ e, ⟨b1, b2, b3, b4⟩, q⟩
  refine Call_ (ld_blt I hg hm boot_list (PyProof.Rows.callWith_type1 (args_cons (thn inner fun x s1 ⟨r, i, j, t, u, v, H1, ex, hr, I1, bd, q⟩ => args_nil ?_) na) na))
  subst ex
  obtain ⟨b1, b2, b3, b4⟩ := bd
  refine call_list_range (n := (i - j).toNat) (I1.ok.hd hc) hr (PySem.W.small_down (by omega) (by omega) (by omega) (by omega)) (PySem.W.rangeSize_downNat i j) (by omega) fun h' tk acc c' hk e' hi => ?_
  have ll : (dnV i j).length ≤ sizeLine := by
    unfold dnV
    rw [List.length_map, List.length_range, sizeLine_eq]
    omega
  exact ⟨.ref s1.heap.objs.size, _, I1.laid hk (Nat.le_refl _) (show ObjOk X.prog X.w _ _ _ (.lst (dnV i j)) from ⟨ll, acc.toList, c', dn_vals hi, by rw [Array.toArray_toList]; exact e'⟩), rfl, q _ (I1.hok.fresh (Nat.le_refl _))⟩
/-! ### sorted(set(xs)) of ints -/
abbrev emp (w : World) : Obj := { cls := .type "set", dict := none, data := .set #[] 0 (.fresh 0 0 (!w.params.followText "set-order")) }
end
section
variable {P : Program} {w : World} {A : Around} {E : Value → Shared → Prop} {s : Shared}
set_option maxHeartbeats 6400000 in
theorem set_ints_of {l : Addr} {its : Array Value} (ns : List Int) {Q : Value → Shared → Prop} (hh : A.handled = none) (hl : s.heap.IsList l its) (hi : IntsAre its.toList ns) (hb : ns.length + 1 < scanBound)
    (h : ∀ (h2 : Heap) (tk c : Nat), SetR w h2 s.heap.objs.size (fun j => decide (j ∈ ns)) c → (∀ b o, s.heap.get? b = some o → h2.get? b = some o) → Q (.ref s.heap.objs.size) { s with heap := h2, toks := tk }) :
    wpAny (model P w) A (call (.type "set") [.ref l]) Q E s := by
  have isz : its.size = ns.length := (Array.length_toList).symm.trans (IntsAre.length hi)
  obtain ⟨c, tl, mro⟩ := F.called_set.mro
  have made := F.called_set.made
  have sub := F.called_set.sub
  refine wpAny_call (codeAny_of_tree (show wpAny _ _ (callAny (.type "set") _) _ _ _ from wpAny_pure ⟨Code.quiet_builtin _ (by decide +kernel), codeAny_builtin F.entry_type_call ?_⟩))
  rw [Around.under_plain (weight_type_call_type "set" [.ref l] []) rfl]
  have no := F.called_set.notType
  have can := F.called_set.canCreate
  have one := F.typeCall_set_1 (.ref l)
  repeat (any_goals (first | assumption | wp_step))
  refine codeAny_mono (code_set_led1 (.ref l) (E := E) (Q₁ := fun x s₁ => x = .ref s.heap.objs.size ∧ s₁ = { s with heap := s.heap.push (emp w) }) ⟨rfl, rfl⟩) fun r s₁ hr => ?_
  rcases r with e | fl
  · exact hr
  cases fl
  case ret x =>
    obtain ⟨rfl, rfl⟩ := hr
    have at0 : (s.heap.push (emp w)).get? s.heap.objs.size = some (emp w) := Heap.get?_push_size _ rfl
    have ty : Shared.TypeIs { s with heap := s.heap.push (emp w) } (.ref s.heap.objs.size) "set" := ⟨_, at0, rfl⟩
    have li := F.called_set.init.lookup
    have bi := F.called_set.init.bind (.ref s.heap.objs.size)
    repeat (any_goals (first | assumption | wp_step))
    refine codeAny_mono (codeAny_call_builtin (R := wants (fun r s₂ => r = .none ∧ ∃ h2 tk c, s₂ = { s with heap := h2, toks := tk } ∧ SetR w h2 s.heap.objs.size (fun j => decide (j ∈ ns)) c ∧ ∀ b o, s.heap.get? b = some o → h2.get? b = some o) E) F.called_set.init.plain F.entry_set_init (check_set_init_1 ty ?_)) fun r₂ s₂ hr₂ => ?_
    · obtain ⟨ol, hol, hcl, nl, hdl⟩ := hl
      obtain ⟨ocls, odict, odata, oslots⟩ := ol
      simp only at hcl hdl
      subst hcl hdl
      have hol2 : (s.heap.push (emp w)).get? l = some { cls := .type "list", dict := odict, data := .seq its nl, slots := oslots } := Heap.get?_push_of_some _ hol
      have s1 := F.sub_list_set
      have s2 := F.sub_list_frozenset
      have s3 : (Value.type "list" == Value.type "dict") = false := by decide
      have l1 : (s.heap.push (emp w)).IsList l its := ⟨_, hol2, rfl, nl, rfl⟩
      unfold Builtin.«set.__init__» noKeywords Builtin.Frozenset.updateFrom
      generalize hPI : pyIter = PI
      wp_walk
      subst hPI
      refine wpAny_pyIter_list l1 (wpAny_bind (wpAny_runValue ?_))
      have lS : l < s.heap.objs.size := Heap.lt_size hol
      have h3 : A.in1.in1.in1.handled = none := by simp [hh]
      have nI : l ≠ (s.heap.push (emp w)).objs.size := by
        rw [Heap.size_push]
        exact Nat.ne_of_lt (Nat.lt_succ_of_lt lS)
      have off : s.heap.objs.size ∉ [(s.heap.push (emp w)).objs.size, l] := by
        rw [Heap.size_push]
        intro z
        rcases List.mem_cons.mp z with z | z
        · exact absurd z (Nat.ne_of_lt (Nat.lt_succ_self _))
        · exact absurd (List.mem_singleton.mp z) (Nat.ne_of_gt lS)
      have val : ∀ (i : Nat) (v : Value), its[i]? = some v → ∃ k t, ns[i]? = some k ∧ v = .int k t := fun i v hv => by
        have il : i < ns.length := isz ▸ (Array.getElem?_eq_some_iff.mp hv).1
        obtain ⟨t, e⟩ := PyProof.Rows.IntsAre.int_at hi i v ((Array.getElem?_toList).trans hv)
        refine ⟨ns[i], t, List.getElem?_eq_getElem il, e.trans ?_⟩
        rw [List.getD_eq_getElem?_getD, List.getElem?_eq_getElem il]
        rfl
      refine set_update_ints ((Walks.list h3 _ l nI its).toS) s.heap.objs.size off ns isz hb val (its.size - 0) 0 _ (by omega) (Nat.zero_le _) ⟨⟨_, Heap.get?_push_size _ rfl, rfl, rfl⟩, l1.push _⟩ ?first ?last
      case first => exact ⟨0, Nat.le_refl 0, setR_new_at (Heap.get?_push_of_some _ at0)⟩
      case last =>
        intro s' c' hm hc' hS
        obtain ⟨h2, g2, d2, tk2, os2⟩ := s'
        have e1 : g2 = s.gens := hm.gens
        have e2 : d2 = s.drawn := hm.drawn
        have e3 : os2 = s.os := hm.os
        subst e1 e2 e3
        refine (show wpAny _ _ _ _ _ _ from wpAny_pure (show wpAny _ _ (ret Value.none) _ _ _ from wpAny_pure ⟨rfl, h2, tk2, c', rfl, hS, fun b o e => ?_⟩))
        have b0 : b < s.heap.objs.size := Heap.lt_size e
        refine hm.heap b o (fun z => ?_) (Heap.get?_push_of_some _ (Heap.get?_push_of_some _ e))
        rcases List.mem_cons.mp z with z | z
        · exact absurd z (Nat.ne_of_lt b0)
        · have z2 := List.mem_singleton.mp z
          rw [Heap.size_push] at z2
          exact absurd z2 (Nat.ne_of_lt (Nat.lt_succ_of_lt b0))
    · rcases r₂ with e | fl₂
      · exact hr₂
      cases fl₂
      case ret r =>
        obtain ⟨rfl, h2, tk, c', rfl, hS, hk⟩ := hr₂
        repeat (any_goals (first | assumption | wp_step))
        exact h _ _ _ hS hk
      all_goals exact hr₂.elim
  all_goals exact hr.elim
theorem SetR.few {h : Heap} {a : Addr} {S : Int → Bool} {n m : Nat} (R : SetR w h a S n) (hS : ∀ k : Int, S k = true → 0 ≤ k ∧ k < m) : n ≤ m := by
  obtain ⟨o, es, ep, t, ho, hx, hd, g, nd, hm, hb, hf, hn, _⟩ := R
  have e : (es.toList.map keyOf).length = n := by rw [List.length_map, Array.length_toList]; exact hn
  rw [← e]
  have nd2 : ((es.toList.map keyOf).map Int.toNat).Nodup := by
    rw [List.Nodup, List.pairwise_map]
    refine (List.pairwise_iff_getElem.mp nd |> fun q => List.pairwise_iff_getElem.mpr fun i j hi hj hij z => q i j hi hj hij ?_)
    have a1 := hS _ ((hm _).mpr (List.getElem_mem hi))
    have a2 := hS _ ((hm _).mpr (List.getElem_mem hj))
    omega
  have sub : ((es.toList.map keyOf).map Int.toNat) ⊆ List.range m := fun x hx => by
    obtain ⟨k, hk, rfl⟩ := List.mem_map.mp hx
    have a1 := hS _ ((hm _).mpr hk)
    exact List.mem_range.mpr (by omega)
  have := nd2.length_le_of_subset sub
  rw [List.length_map, List.length_range] at this
  exact this
end
def rSetO (K : PySem.W.Frag) (w : World) : List V → Hp → VK → Prop := fun vs H Q => ∃ (a : Addr) (ns : List Int), vs = [V.ref a] ∧ SqL K H a (ns.map V.int) ∧ ns.length ≤ 3200 ∧ (∀ k ∈ ns, 0 ≤ k ∧ k < 60) ∧
  ∀ p n, H p = none → n ≤ 60 → Q (.ref p) (upd H p (SetO w p (fun k => decide (k ∈ ns)) n))
section
variable {X : Cx}
theorem cr_setO (hc : X.calm = true) : CallR X (.type "set") (rSetO X.K X.w) := by
  intro pins s σ H vs us Q I r h
  obtain ⟨a, ns, rfl, hs, hn, hk, q⟩ := h
  have sb : 3202 < scanBound := by decide
  rw [Vals.ref1 r]
  obtain ⟨its, rv, hl, _⟩ := I.list hs
  refine set_ints_of ns (I.ok.hd hc) hl.isList rv.ints (by omega) fun h2 tk c R keep => ?_
  exact ⟨.ref _, upd H s.heap.objs.size (SetO X.w s.heap.objs.size (fun k => decide (k ∈ ns)) c), I.laid (t' := tk) keep (Nat.le_refl _) (setO_new R), rfl, q _ c (I.hok.fresh (Nat.le_refl _)) (SetR.few R (m := 60) fun k z => hk k (of_decide_eq_true z))⟩
theorem setOK (K : PySem.W.Frag) (w : World) (h : X.K = K) (h2 : X.w = w) (hc : X.calm = true) : CallR X (.type "set") (rSetO K w) := by
  subst h h2
  exact cr_setO hc
theorem sortedSetK (w : World) (h2 : X.w = w) (hc : X.calm = true) : CallR X (.builtin "sorted") (rSortedSet w) := by
  subst h2
  exact cr_sortedSet hc
theorem sortedIK (K : PySem.W.Frag) (h : X.K = K) : CallR X (.builtin "sorted") (rSortedI K) := by
  subst h
  exact cr_sortedI
end
section
variable {c : Ct} {e : TX.Env} {Q : O → TX.Env → Prop} {o1 o2 : O}
theorem wc_sortedI {ns : List Int} (n1 : nobx o1 = true) (h : toD o1 = .lst (ns.map D.int)) (q : ∀ ns' : List Int, ns'.Perm ns → ns'.Pairwise (· ≤ ·) → Q (.lst ((ns'.map D.int).map O.sh)) e) : WC c (rSortedI c.K) [o1] e Q := fun S H ts vs us σ r l Q' k => by
  obtain ⟨x, rfl⟩ := vals_one l
  obtain ⟨S', s, t1, r1⟩ := R.freeze1 r n1
  rw [h] at t1
  simp only [Rep] at t1
  obtain ⟨p, xs, rfl, h1, h2⟩ := t1
  refine ⟨p, ns, rfl, .of (by rw [← reps_int h2]; exact r1.sub _ _ h1), fun ns' z pm pw hz => ?_⟩
  have rr := reps_ns (K := c.K) (S := S') ns'
  exact k _ _ _ _ _ ((r1.pushes rr).list (by rw [rr.len]; exact (List.length_map _).symm) hz) (q ns' pm pw)
/-- sorted(set(xs)), ints -/
theorem we_sortedSet {te : TE} {w : World} (h : WE c te e fun o e1 => nobx o = true ∧ ∃ ns : List Int, toD o = .lst (ns.map D.int) ∧ ns.length ≤ 3200 ∧ (∀ k ∈ ns, 0 ≤ k ∧ k < 60) ∧ ∀ ns' : List Int, ns'.Pairwise (· < ·) → (∀ k, k ∈ ns' ↔ k ∈ ns) → Q (.lst ((ns'.map D.int).map O.sh)) e1) :
    WE c (tCB (rSortedSet w) (tCons (tCB (rSetO c.K w) (tCons te tNil)) tNil)) e Q := fun S H ts vs σ r Q' k =>
  h S H ts vs σ r _ fun o v e1 S1 H1 r1 ⟨n1, ns, hd, hn, hb, q⟩ => by
    obtain ⟨S2, s2, t1, r2⟩ := R.freeze1 r1 n1
    rw [hd] at t1
    simp only [Rep] at t1
    obtain ⟨p, xs, rfl, h1, h2⟩ := t1
    refine ⟨p, ns, rfl, .of (by rw [← reps_int h2]; exact r2.sub _ _ h1), hn, hb, fun z m hz hm => ?_⟩
    refine ⟨z, _, m, rfl, upd_same, by omega, fun ns' y pw mem _ hy => ?_⟩
    obtain ⟨r3, s3⟩ := r2.share (u := SetO w z (fun k => decide (k ∈ ns)) m) hz
    have rr := reps_ns (K := c.K) (S := upd S2 z (SetO w z (fun k => decide (k ∈ ns)) m)) ns'
    exact k _ _ _ _ _ ((r3.pushes rr).list (by rw [rr.len]; exact (List.length_map _).symm) hy) (q ns' pw fun j => by rw [mem j, decide_eq_true_eq])
theorem reps_dn {K : PySem.W.Frag} {S : Hp} (a : Int) (n : Nat) : Reps K S ((List.range n).map fun i : Nat => D.int (a - (i : Int))) ((List.range n).map fun i : Nat => V.int (a - (i : Nat))) := by
  generalize List.range n = l
  induction l with
  | nil => simp [Reps]
  | cons i l ih =>
    simp only [List.map_cons, Reps, Rep]
    exact ⟨_, _, rfl, rfl, ih⟩
def dnI (a b : Int) : List Int := (List.range (a - b).toNat).map fun i : Nat => a - (i : Int)
theorem we_ldn {ta : TA} (h : WA c ta e fun os e1 => ∃ i j : Int, os = [.sh (.int i), .sh (.int j), .sh (.int (-1))] ∧ dnOk i j ∧ Q (.lst (((dnI i j).map D.int).map O.sh)) e1) : WE c (tLstDn ta) e Q := fun S H ts vs σ r Q' k =>
  h S H ts vs σ r _ fun os us e1 S1 H1 r1 l ⟨i, j, e2, h1, q⟩ => by
    subst e2
    obtain ⟨u, w, y, rfl⟩ : ∃ u w y, us = [u, w, y] := by
      match us, l with
      | [u, w, y], _ => exact ⟨u, w, y, rfl⟩
    have t : u = V.int i := r1.top
    have t2 : w = V.int j := r1.pop.top
    have t3 : y = V.int (-1) := r1.pop.pop.top
    subst t t2 t3
    have rr := reps_dn (K := c.K) (S := S1) i (i - j).toNat
    have em : ((List.range (i - j).toNat).map fun n : Nat => D.int (i - (n : Int))) = (dnI i j).map D.int := by
      unfold dnI
      rw [List.map_map]
      rfl
    rw [em] at rr
    exact ⟨i, j, rfl, h1, fun z hz => k _ _ _ _ _ ((r1.pop.pop.pop.pushes rr).list (by rw [rr.len]; exact (List.length_map _).symm) hz) q⟩
theorem we_lrg2 {ta tb : TE} (h : WE c ta e fun o e1 => WE c tb e1 fun o2 e2 => ∃ i j : Int, o = .sh (.int i) ∧ o2 = .sh (.int j) ∧ dnOk i j ∧ Q (.lst ((rngD i (j - i).toNat).map O.sh)) e2) : WE c (tLstRg (tRg2 ta tb)) e Q := fun S H ts vs σ r Q' k =>
  h S H ts vs σ r _ fun o v e1 S1 H1 r1 q1 => q1 S1 H1 _ _ σ r1 _ fun o2 v2 e2 S2 H2 r2 ⟨i, j, e3, e4, bd, q⟩ => by
    subst e3 e4
    have t : v2 = V.int j := r2.top
    have t2 : v = V.int i := r2.pop.top
    subst t t2
    obtain ⟨b1, b2, b3, b4⟩ := bd
    have rr : Reps c.K S2 (rngD i (j - i).toNat) (rgV i j) := by
      unfold rngD rgV
      generalize List.range (j - i).toNat = l
      induction l with
      | nil => simp [Reps]
      | cons i l ih =>
        simp only [List.map_cons, Reps, Rep]
        exact ⟨_, _, rfl, rfl, ih⟩
    exact ⟨i, j, rfl, rfl, ⟨by omega, by omega, by omega, by omega, by omega⟩, fun z hz => k _ _ _ _ _ ((r2.pop.pop.pushes rr).list (by rw [rr.len]; exact (List.length_map _).symm) hz) q⟩
theorem R.appAll {S H : Hp} {ts os : List O} {vs xs ys : List V} {ds : List D} {p : Addr} {σ : L2.St} (r : R c S H (.lst os :: ts) (.ref p :: vs) e σ) (hp : H p = some (.lst xs)) (hd : Reps c.K S ds ys) : R c S (upd H p (.lst (xs ++ ys))) (.lst (os ++ ds.map O.sh) :: ts) (.ref p :: vs) e σ := by
  obtain ⟨p', xs', g, ft, fe, h1, h2, h3, h4, h5, h6⟩ := r.openTop
  obtain rfl : p = p' := V.ref.inj h1
  rw [hp] at h2
  obtain rfl : xs = xs' := HO.lst.inj (Option.some.inj h2)
  refine R.closeTop r hp rfl (RepOs.app h3 (reps_all hd)) h4 h5 fun a => ?_
  have := h6 a
  (try dsimp only)
  exact ⟨by omega, fun z => this.2 (by omega)⟩
/-- xs.extend(ys), ys made by itself -/
theorem we_extend {i : Nat} {ta : TA} {ls0 : List O} (h0 : e.sl[i]? = some (some (.lst ls0))) (h : WA c ta e fun os e1 => ∃ o ls ds, os = [o] ∧ nobx o = true ∧ toD o = .lst ds ∧ e1.sl[i]? = some (some (.lst ls)) ∧ ls.length + ds.length ≤ 100000 ∧ Q (.sh .non) ⟨e1.sl.set i (some (.lst (ls ++ ds.map O.sh))), e1.g⟩) :
    WE c (tBM c.K "list" rExtend (tVar i) ta) e Q := by
  refine we_meth h0 ?_
  refine fun S H ts vs σ rr Q' k => h S H ts vs σ rr Q' fun os us e1 S1 H1 r1 l ⟨o, ls, ds, e2, n1, hd, e3, e4, q⟩ => k os us e1 S1 H1 r1 l ⟨ls, e3, fun S H ts vs σ p xs us r l hp lx Q' k => ?_⟩
  subst e2
  obtain ⟨y, rfl⟩ := vals_one l
  obtain ⟨S2, s2, t1, r2⟩ := R.freeze1 (R.swap r) n1
  rw [hd] at t1
  simp only [Rep] at t1
  obtain ⟨p2, ys, rfl, h1, h2⟩ := t1
  have ly := h2.len
  have r3 := r2.appAll hp h2
  refine ⟨p, p2, xs, ys, rfl, rfl, hp, r2.sub _ _ h1, (by have q2 : xs.length + ys.length ≤ 100000 := (by rw [lx, ly]; exact e4); rw [sizeLine_eq]; omega), k (.sh .non) .non (ls ++ ds.map O.sh) _ _ _ (R.swap (R.push (d := .non) (v := .non) r3 rfl)) ?_⟩
  simp only [List.set_set]
  exact q
theorem we_chainI {f f' : Int → Int → Bool} {ta tb tc : TE} (h : WE c ta e fun p1 e1 => WE c tb e1 fun p2 e2 => ∃ i j : Int, p1 = .sh (.int i) ∧ p2 = .sh (.int j) ∧ if f i j = true then WE c tc e2 fun p3 e3 => ∃ k : Int, p3 = .sh (.int k) ∧ Q (.sh (.bl (f' j k))) e3 else Q (.sh (.bl false)) e2) :
    WE c (tChain (rI0 fun i j => .bl (f i j)) (rI0 fun i j => .bl (f' i j)) ta tb tc) e Q := fun S H ts vs σ r Q' k =>
  h S H ts vs σ r _ fun p1 x e1 S1 H1 r1 q1 => q1 S1 H1 _ _ σ r1 _ fun p2 y e2 S2 H2 r2 ⟨i, j, a1, a2, q⟩ => by
    subst a1 a2
    have t1 : y = V.int j := r2.top
    have t2 : x = V.int i := r2.pop.top
    subst t1 t2
    refine ⟨i, j, rfl, rfl, f i j, rfl, ?_⟩
    by_cases z : f i j = true
    · rw [if_pos z] at q ⊢
      refine q S2 H2 _ _ σ r2 _ fun p3 w e3 S3 H3 r3 ⟨l, a3, q3⟩ => ?_
      subst a3
      have t3 : w = V.int l := r3.top
      subst t3
      exact ⟨j, l, rfl, rfl, k _ _ _ _ _ (r3.pop.pop.pop.push (d := .bl _) rfl) q3⟩
    · rw [if_neg z] at q ⊢
      exact k _ _ _ _ _ (r2.pop.pop.push (d := .bl false) rfl) q
/-- xs[k] = v of a list that a name holds alone -/
theorem wg_set {i : Nat} {ti : TE} {o : O} {ls0 : List O} {G : TX.Env → Prop} (h0 : e.sl[i]? = some (some (.lst ls0)))
    (h : WE c ti e fun o2 e1 => ∃ (k : Int) (j : Nat) (ls : List O), o2 = .sh (.int k) ∧ e1.sl[i]? = some (some (.lst ls)) ∧ ixN ls.length k = some j ∧ G ⟨e1.sl.set i (some (.lst (ls.set j o))), e1.g⟩) : WG c (gSub (tVar i) ti rSetL) o e G := fun S H ts vs x σ r Q' kk => by
  obtain ⟨v, h1, r1⟩ := r.out h0
  refine ⟨v, h1, ?_⟩
  refine h S H _ _ σ r _ fun o2 y e1 S1 H1 r2 ⟨k, j, ls, e2, e3, e4, q⟩ => ?_
  subst e2
  have t : y = V.int k := r2.top
  subst t
  obtain ⟨v', k1, r4⟩ := r2.pop.out e3
  rw [h1] at k1
  obtain rfl := Option.some.inj (Option.some.inj k1)
  obtain ⟨p, xs, rfl, k2, k3⟩ := r4.ref_top
  have r5 := R.setAt (k := j) r4 k2
  refine ⟨p, xs, k, j, rfl, rfl, k2, by rw [k3]; exact e4, kk _ _ _ _ (r5.inn h1) ?_⟩
  simp only [List.set_set]
  exact q
end
end TX
end

section
namespace TX
open PySem PySem.Spec PyProof.Rows L2
theorem we_at {c : Ct} {e e' : TX.Env} {Q : O → TX.Env → Prop} {te : TE} (h : e = e') (k : WE c te e' Q) : WE c te e Q := h ▸ k
theorem wt_at {c : Ct} {e e' : TX.Env} {Q : Bool → TX.Env → Prop} {te : TT} (h : e = e') (k : WT c te e' Q) : WT c te e Q := h ▸ k
theorem ws_at {c : Ct} {e e' : TX.Env} {P : Post} {t : TS} (h : e = e') (k : WS c t e' P) : WS c t e P := h ▸ k
end TX
end

section
namespace TX
open PySem PySem.Spec PyProof.Rows L2
section
variable {X : Cx}
/-! ### bools among ints -/
def boolI (b : Bool) : Int := if b = true then 1 else 0
def rAddN : R2 := fun x y H Q => ∃ j, y = V.int j ∧ ((∃ i, x = V.int i ∧ Q (.int (i + j)) H) ∨ ∃ b, x = V.bl b ∧ Q (.int (boolI b + j)) H)
theorem op_addN : OpR X (binaryOp .Add) rAddN := by
  intro pins s σ H x y v u Q I rx ry h
  obtain ⟨j, rfl, h⟩ := h
  obtain ⟨t, rfl⟩ := ry
  rcases h with ⟨i, rfl, q⟩ | ⟨b, rfl, q⟩
  · obtain ⟨t', rfl⟩ := rx
    exact add_int ⟨.int (i + j), H, I.tok _, ⟨_, rfl⟩, q⟩
  · cases rx
    exact PySem.IntBool.add_bool_int ⟨.int (boolI b + j), H, I.tok _, ⟨_, rfl⟩, q⟩
def rSubN : R2 := fun x y H Q => (∃ i j, x = V.int i ∧ y = V.int j ∧ Q (.int (i - j)) H) ∨ (∃ b j, x = V.bl b ∧ y = V.int j ∧ Q (.int (boolI b - j)) H) ∨ ∃ i b, x = V.int i ∧ y = V.bl b ∧ Q (.int (i - boolI b)) H
theorem op_subN : OpR X (binaryOp .Sub) rSubN := by
  intro pins s σ H x y v u Q I rx ry h
  rcases h with ⟨i, j, rfl, rfl, q⟩ | ⟨b, j, rfl, rfl, q⟩ | ⟨i, b, rfl, rfl, q⟩
  · obtain ⟨t, rfl⟩ := rx
    obtain ⟨t', rfl⟩ := ry
    exact sub_int ⟨.int (i - j), H, I.tok _, ⟨_, rfl⟩, q⟩
  · cases rx
    obtain ⟨t', rfl⟩ := ry
    exact PySem.IntBool.sub_bool_int ⟨.int (boolI b - j), H, I.tok _, ⟨_, rfl⟩, q⟩
  · obtain ⟨t, rfl⟩ := rx
    cases ry
    exact PySem.IntBool.sub_int_bool ⟨.int (i - boolI b), H, I.tok _, ⟨_, rfl⟩, q⟩
def rStrN : List V → Hp → VK → Prop := fun xs H Q => (∃ i : Int, xs = [V.int i] ∧ i.natAbs.log2 < 1920 ∧ Q (.str (toString i)) H) ∨ ∃ b : Bool, xs = [V.bl b] ∧ Q (.str (if b then "True" else "False")) H
theorem cr_strN : CallR X (.type "str") rStrN := by
  intro pins s σ H xs us Q I r h
  rcases h with ⟨i, rfl, hz, q⟩ | ⟨b, rfl, q⟩
  · obtain ⟨u, rfl, t, rfl⟩ := vals1 r
    exact PySem.P.str_of_int hz ⟨.str _, H, I.tok _, ⟨_, rfl⟩, q⟩
  · obtain ⟨u, rfl, r1⟩ := vals1 r
    cases r1
    exact PySem.P.str_of_bool ⟨.str _, H, I.tok _, ⟨_, rfl⟩, q⟩
/-! ### min of a tuple of ints -/
def rMinT (K : PySem.W.Frag) : List V → Hp → VK → Prop := fun vs H Q => ∃ (a : Addr) (ns : List Int), vs = [V.ref a] ∧ SqT K H a (ns.map V.int) ∧ 0 < ns.length ∧ ∀ m, m ∈ ns → (∀ y, y ∈ ns → m ≤ y) → Q (.int m) H
theorem cr_minT (hc : X.calm = true) : CallR X (.builtin "min") (rMinT X.K) := by
  intro pins s σ H vs us Q I r h
  obtain ⟨a, ns, rfl, hs, hn, q⟩ := h
  rw [Vals.ref1 r]
  obtain ⟨its, rv, hl, _⟩ := I.tuple hs
  have hi := rv.ints
  have len : its.length = ns.length := hi.length
  refine call_min_walkS (walk_tup (by exact I.ok.hd hc) hl fun J fp wr St s2 W st hf keep hw ⟨h0, tk0, e2⟩ hz => ?_)
  refine ⟨J, fp, wr, _, _, _, _, fun i j => decide (ns.getD i 0 < ns.getD j 0), rfl, W.toS, st, hf, by rw [List.size_toArray]; omega, ?_, ?_⟩
  · intro i j vi vj s3 Q3 E3 hi' hj' q3
    obtain ⟨t, rfl, _⟩ := ints_get hi i vi (by simpa using hi')
    obtain ⟨u, rfl, _⟩ := ints_get hi j vj (by simpa using hj')
    exact PyProof.Rows.lt_int q3
  · intro v s' hP hm
    obtain ⟨t, rfl, hl2⟩ := ints_get hi _ v (by simpa using hP)
    obtain ⟨g1, g2⟩ := argBest_lt (fun i => ns.getD i 0) (its.toArray.size - 1)
    subst e2
    obtain ⟨h', gg, dd, tk', os'⟩ := s'
    have eg := hm.gens
    have ed := hm.drawn
    have eo := hm.os
    dsimp only at eg ed eo
    subst ed eo
    have eg2 : gg = s.gens := eg
    subst eg2
    refine ⟨.int _, H, I.kept (t' := tk') fun b o eb => hm.heap b o (fun hb => absurd (Heap.lt_size eb) (Nat.not_lt.mpr (hw b hb))) (keep b o eb), ⟨_, rfl⟩, q _ ?_ fun y hy => ?_⟩
    · rw [List.getD_eq_getElem?_getD, List.getElem?_eq_getElem hl2]
      exact List.getElem_mem hl2
    · obtain ⟨j, hj, rfl⟩ := List.getElem_of_mem hy
      have := g2 j (by rw [List.size_toArray]; omega)
      rw [List.getD_eq_getElem?_getD (l := ns) (i := j), List.getElem?_eq_getElem hj] at this
      exact this
/-! ### len(set(xs)), ints -/
theorem nodup_of_sub : ∀ {l m : List Int}, l.Nodup → l ⊆ m → l.length = m.length → m.Nodup
  | [], m, _, _, h => by
    have : m = [] := List.length_eq_zero_iff.mp h.symm
    rw [this]
    exact List.nodup_nil
  | a :: l, m, nd, sub, h => by
    obtain ⟨a1, a2⟩ := List.nodup_cons.mp nd
    have am : a ∈ m := sub List.mem_cons_self
    have sub2 : l ⊆ m.erase a := fun x hx => (List.mem_erase_of_ne (fun z => by subst z; exact a1 hx)).mpr (sub (List.mem_cons_of_mem _ hx))
    have hl : l.length = (m.erase a).length := by
      rw [List.length_erase_of_mem am]
      rw [List.length_cons] at h
      omega
    have ih := nodup_of_sub a2 sub2 hl
    refine (List.perm_cons_erase am).nodup_iff.mpr (List.nodup_cons.mpr ⟨fun z => ?_, ih⟩)
    have s3 : a :: l ⊆ m.erase a := fun x hx => by
      rcases List.mem_cons.mp hx with rfl | hx
      · exact z
      · exact sub2 hx
    have := nd.length_le_of_subset s3
    rw [List.length_cons] at this
    omega
theorem SetR.exact {w : World} {h : Heap} {a : Addr} {ns : List Int} {n : Nat} (R : SetR w h a (fun k => decide (k ∈ ns)) n) : n = ns.length ↔ ns.Nodup := by
  obtain ⟨o, es, ep, t, ho, hx, hd, g, nd, hm, hb, hf, hn, _⟩ := R
  have e : (es.toList.map keyOf).length = n := by rw [List.length_map, Array.length_toList]; exact hn
  have mem : ∀ k, k ∈ es.toList.map keyOf ↔ k ∈ ns := fun k => by rw [← hm k, decide_eq_true_eq]
  constructor
  · intro z
    exact nodup_of_sub nd (fun x hx => (mem x).mp hx) (by rw [e, z])
  · intro z
    rw [← e]
    exact ((List.perm_ext_iff_of_nodup nd z).mpr mem).length_eq
def rSetE (K : PySem.W.Frag) (w : World) : List V → Hp → VK → Prop := fun vs H Q => ∃ (a : Addr) (ns : List Int), vs = [V.ref a] ∧ (SqL K H a (ns.map V.int) ∨ SqT K H a (ns.map V.int)) ∧ ns.length ≤ 1000 ∧
  ∀ p n, H p = none → (n = ns.length ↔ ns.Nodup) → n < 4096 → Q (.ref p) (upd H p (SetO w p (fun k => decide (k ∈ ns)) n))
theorem cr_setE (hc : X.calm = true) : CallR X (.type "set") (rSetE X.K X.w) := by
  intro pins s σ H vs us Q I r h
  obtain ⟨a, ns, rfl, hs, hn, q⟩ := h
  have sb : 1002 < scanBound := by decide
  rw [Vals.ref1 r]
  have fin : ∀ (h2 : Heap) (tk c : Nat), SetR X.w h2 s.heap.objs.size (fun k => decide (k ∈ ns)) c → (∀ b o, s.heap.get? b = some o → h2.get? b = some o) → EP X pins σ Q (.ref s.heap.objs.size) { s with heap := h2, toks := tk } := fun h2 tk c R keep => by
    have lt : c < 4096 := by
      obtain ⟨o, es, ep, t, _, _, _, _, _, _, hb, _, hn, _⟩ := id R
      rw [← hn]
      exact hb
    exact ⟨.ref _, _, I.laid (t' := tk) keep (Nat.le_refl _) (setO_new R), rfl, q _ c (I.hok.fresh (Nat.le_refl _)) (SetR.exact R) lt⟩
  rcases hs with hs | hs
  · obtain ⟨its, rv, hl, _⟩ := I.list hs
    exact set_ints_of ns (I.ok.hd hc) hl.isList rv.ints (by omega) fun h2 tk c R keep => fin h2 tk c R keep
  · obtain ⟨its, rv, hl, _⟩ := I.tuple hs
    exact call_set_tupI ns (I.ok.hd hc) hl rv.ints (by omega) fun h2 tk c R _ keep => fin h2 tk c R keep
def rLenS (w : World) : List V → Hp → VK → Prop := fun vs H Q => ∃ (a : Addr) (S : Int → Bool) (n : Nat), vs = [V.ref a] ∧ H a = some (SetO w a S n) ∧ n < 4096 ∧ Q (.int (n : Nat)) H
theorem cr_lenS : CallR X (.builtin "len") (rLenS X.w) := by
  intro pins s σ H vs us Q I r h
  obtain ⟨a, S, n, rfl, ha, hn, q⟩ := h
  have R := setO_get I ha
  rw [Vals.ref1 r]
  obtain ⟨o, es, ep, t, ho, hx, hd, g, nd, hm, hb, hf, e, _⟩ := R
  subst e
  exact call_len_set ho hx hd hf (by omega) ⟨.int _, H, I.kept (t' := s.toks + 1 + 1) fun _ _ z => z, ⟨_, rfl⟩, q⟩
theorem setEK (K : PySem.W.Frag) (w : World) (h : X.K = K) (h2 : X.w = w) (hc : X.calm = true) : CallR X (.type "set") (rSetE K w) := by
  subst h h2
  exact cr_setE hc
theorem lenSK (w : World) (h2 : X.w = w) : CallR X (.builtin "len") (rLenS w) := by
  subst h2
  exact cr_lenS
theorem minTK (K : PySem.W.Frag) (h : X.K = K) (hc : X.calm = true) : CallR X (.builtin "min") (rMinT K) := by
  subst h
  exact cr_minT hc
end
/-! ### a tuple from the other end; a part of a list replaced -/
section
variable {prog : Program} {w : World} {A : Around} {E : Value → Shared → Prop} {s : Shared}
theorem rev_adjust (n : Nat) : Builtin.Slice.sliceAdjust none none (-1) (n : Int) = ((n : Int) - 1, -1) := by
  simp [Builtin.Slice.sliceAdjust]
theorem rev_places (n : Nat) : Builtin.Slice.slicePlaces ((n : Int) - 1) (-1) (-1) = n := by
  unfold Builtin.Slice.slicePlaces
  rw [if_neg (by decide)]
  by_cases h : (n : Int) - 1 > -1
  · rw [if_pos h]
    have : -(-1 : Int) = 1 := by decide
    rw [this, Int.ediv_one]
    omega
  · rw [if_neg h]
    omega
theorem rev_pick (xs : Array Value) : ((List.range xs.size).filterMap fun (k : Nat) => xs[((xs.size : Int) - 1 + (k : Int) * (-1)).toNat]?) = xs.toList.reverse := by
  apply List.ext_getElem?
  intro i
  have e : ∀ k : Nat, k < xs.size → xs[((xs.size : Int) - 1 + (k : Int) * (-1)).toNat]? = some (xs.toList.reverse.getD k .none) := fun k hk => by
    have q : ((xs.size : Int) - 1 + (k : Int) * (-1)).toNat = xs.size - 1 - k := by omega
    have l2 : k < xs.toList.reverse.length := by rw [List.length_reverse, Array.length_toList]; exact hk
    rw [q, Array.getElem?_eq_getElem (by omega), List.getD_eq_getElem?_getD, List.getElem?_eq_getElem l2, List.getElem_reverse]
    rfl
  have f : (List.range xs.size).filterMap (fun (k : Nat) => xs[((xs.size : Int) - 1 + (k : Int) * (-1)).toNat]?) = (List.range xs.size).map fun k => xs.toList.reverse.getD k .none := by
    have go : ∀ l : List Nat, (∀ k ∈ l, k < xs.size) → l.filterMap (fun (k : Nat) => xs[((xs.size : Int) - 1 + (k : Int) * (-1)).toNat]?) = l.map fun k => xs.toList.reverse.getD k .none := by
      intro l
      induction l with
      | nil => intro _; rfl
      | cons a l ih =>
        intro h
        rw [List.filterMap_cons, e a (h a List.mem_cons_self), List.map_cons, ih fun k hk => h k (List.mem_cons_of_mem _ hk)]
    exact go _ fun k hk => List.mem_range.mp hk
  rw [f, List.getElem?_map]
  by_cases hi : i < xs.size
  · have l2 : i < xs.toList.reverse.length := by rw [List.length_reverse, Array.length_toList]; exact hi
    rw [List.getElem?_range hi, List.getElem?_eq_getElem l2]
    show some (xs.toList.reverse.getD i .none) = _
    rw [List.getD_eq_getElem?_getD, List.getElem?_eq_getElem l2]
    rfl
  · rw [List.getElem?_eq_none (by rw [List.length_range]; omega), List.getElem?_eq_none (by rw [List.length_reverse, Array.length_toList]; omega)]
    rfl
theorem get_rev {t sl : Addr} {xs : Array Value} {vs : Value} {Q : Value → Shared → Prop} (ht : IsTup s.heap t xs) (hs : s.heap.IsSliceOf sl .none .none vs) (ps : IsPart vs (some (-1))) (hz : xs.size ≤ sizeLine)
    (h : Q (.ref s.heap.objs.size) { s with heap := s.heap.push { cls := .type "tuple", data := .seq xs.toList.reverse.toArray } }) : wpAny (model prog w) A (getItem (.ref t) (.ref sl)) Q E s := by
  obtain ⟨os, a1, a2, a3⟩ := id hs
  have ty : s.TypeIs (.ref sl) "slice" := ⟨os, a1, a2⟩
  have sz : sizeOk (.seq xs.toList.reverse.toArray) := by
    show xs.toList.reverse.toArray.size ≤ sizeLine
    rw [List.size_toArray, List.length_reverse, Array.length_toList]
    exact hz
  have ap : ∀ {R : Int × Int × Nat → Shared → Prop}, R ((xs.size : Int) - 1, -1, xs.size) s → ∀ {A' : Around} {E' : Value → Shared → Prop}, wpAny (model prog w) A' (Builtin.Slice.sliceApplied (.ref sl) (pure (xs.size : Int))) R E' s := fun {R} r {A' E'} => by
    unfold Builtin.Slice.sliceApplied Builtin.Slice.sliceFields
    refine wpAny_bind (wpAny_bind (wpAny_field a1 a3 (x := .none) rfl (wpAny_bind (wpAny_field a1 a3 (x := .none) rfl (wpAny_bind (wpAny_field a1 a3 (x := vs) rfl (wpAny_pure ?_)))))))
    refine wpAny_bind (HT.slicePart_ ps ?_)
    show wpAny _ _ (if ((-1 : Int) == 0) = true then _ else _) _ _ s
    rw [if_neg (by decide)]
    refine wpAny_bind (slicePart_none (wpAny_bind (slicePart_none (wpAny_bind (wpAny_pure ?_)))))
    show wpAny _ _ (match Builtin.Slice.sliceAdjust none none (-1) (xs.size : Int) with | (lo, hi) => pure (lo, (-1 : Int), Builtin.Slice.slicePlaces lo hi (-1))) _ _ s
    rw [rev_adjust]
    show wpAny _ _ (pure ((xs.size : Int) - 1, (-1 : Int), Builtin.Slice.slicePlaces ((xs.size : Int) - 1) (-1) (-1))) _ _ s
    rw [rev_places]
    exact wpAny_pure r
  unfold getItem
  try with_reducible refine wpAny_holding ?_
  first | refine wpAny_bind (wpAny_pure ?_) | skip
  refine wpAny_bind (wpAny_sequenceKey ht.typeIs (by decide) (wpAny_bind (wpAny_callSpecial?_slot (name := Str.ofString "__getitem__") ht.typeIs PyProof.Rows.slot_tuple_getitem (wpAny_call_entry PyProof.Rows.slot_tuple_getitem ht.typeIs entry_tuple_getitem ?_ (args_tuple_getitem _ _)))))
  refine (show wpAny _ _ (Builtin.Tuple.tupleItemsOf (.ref t) >>= _) _ _ s from wpAny_bind (tupleItemsOf_ ht (wpAny_bind (wpAny_typeOf ty ?_))))
  rw [if_pos (by decide)]
  refine wpAny_bind (ap ?_)
  have no : ¬((((xs.size : Int) - 1) == 0 && (-1 : Int) == 1 && xs.size == xs.size) = true) := by simp
  show wpAny _ _ (if ((((xs.size : Int) - 1) == 0 && (-1 : Int) == 1 && xs.size == xs.size) = true) then _ else _) _ _ s
  rw [if_neg no, rev_pick]
  first
    | exact wpAny_bind (m := Builtin.Tuple.tupleExact _) (wpAny_newObj_type (wpAny_pure ⟨_, rfl, wpAny_pure h⟩) sz)
    | exact wpAny_bind (m := Builtin.Tuple.tupleExact _) (wpAny_newObj_type (wpAny_bind (wpAny_pure (wpAny_pure ⟨_, rfl, wpAny_pure h⟩))) sz)
    | exact wpAny_bind (wpAny_bind (m := Builtin.Tuple.tupleExact _) (wpAny_newObj_type (wpAny_pure (wpAny_pure ⟨_, rfl, wpAny_pure h⟩)) sz))
    | exact wpAny_bind (wpAny_bind (m := Builtin.Tuple.tupleExact _) (wpAny_newObj_type (wpAny_pure ⟨_, rfl, wpAny_pure h⟩) sz))
theorem cut_bounds (a c n : Nat) (hac : a ≤ c) (ha : a ≤ n) : sliceBounds (some (a : Int)) (some (c : Int)) none n = ((a : Int), ((min c n : Nat) : Int), 1) := by
  simp only [sliceBounds, Option.getD_none]
  have h1 : ¬((a : Int) < 0) := by omega
  have h2 : ¬((c : Int) < 0) := by omega
  simp only [h1, h2, if_false, show (1 : Int) > 0 by decide, if_true]
  congr 1
  · omega
  · congr 1
    omega
theorem put_part {l b sl : Addr} {xs ys : Array Value} {n m : Nat} {va vc : Value} {a c : Nat} {Q : Unit → Shared → Prop} (e : s.heap.get? l = some { cls := .type "list", data := .seq xs n }) (e2 : s.heap.get? b = some { cls := .type "list", data := .seq ys m }) (ne : l ≠ b)
    (hs : s.heap.IsSliceOf sl va vc .none) (pa : IsPart va (some (a : Int))) (pc : IsPart vc (some (c : Int))) (hac : a ≤ c) (ha : a ≤ xs.size) (hz : xs.size + ys.size ≤ sizeLine)
    (h : Q () { s with heap := s.heap.update l (Obj.mapSeq fun zs => zs.extract 0 a ++ ys ++ zs.extract (min c xs.size) zs.size) }) : wpAny (model prog w) A (setItem (.ref l) (.ref sl) (.ref b)) Q E s := by
  have hl : s.heap.IsList l xs := PySem.IsL.isList e
  have hb : s.heap.IsList b ys := PySem.IsL.isList e2
  obtain ⟨os, a1, a2, a3⟩ := id hs
  have ty : s.TypeIs (.ref sl) "slice" := ⟨os, a1, a2⟩
  have st : ¬((rawPart none == rawInt 0) = true) := Bool.false_ne_true
  have same : Builtin.List.listSameRef (.ref l) (.ref b) = false := by
    unfold Builtin.List.listSameRef
    exact beq_eq_false_iff_ne.mpr ne
  have mx : (max (a : Int) ((min c xs.size : Nat) : Int)).toNat = min c xs.size := by omega
  have z2 : ((fun zs : Array Value => zs.extract 0 a ++ ys ++ zs.extract (min c xs.size) zs.size) xs).size ≤ sizeLine + 1 := by
    simp only [Array.size_append, Array.size_extract]
    omega
  unfold setItem
  try with_reducible refine wpAny_holding ?_
  first | refine wpAny_bind (wpAny_pure ?_) | skip
  refine wpAny_bind (wpAny_sequenceKey hl.typeIs (by decide) (wpAny_bind (wpAny_callSpecial?_slot (name := Str.ofString "__setitem__") hl.typeIs slot_list_setitem (wpAny_call_entry slot_list_setitem hl.typeIs entry_list_setitem ?_ (args_list_setitem _ _ _)))))
  refine (show wpAny _ _ (Builtin.List.listSubscript? (.ref sl) >>= _) _ _ s from wpAny_bind ?_)
  unfold Builtin.List.listSubscript?
  refine wpAny_bind (wpAny_specialOf ty slice_no_index ?_)
  simp only [Option.isNone_none, if_true]
  refine wpAny_pure (show wpAny _ _ (typeOf (.ref sl) >>= _) _ _ s from wpAny_bind (wpAny_typeOf ty ?_))
  first
    | rw [if_neg (by decide)]
    | refine PySem.W.KFB.if_not (by decide) ?_
  rw [listSliceParts_eq]
  refine wpAny_bind (wpAny_bind (wpAny_field a1 a3 (x := .none) rfl (wpAny_bind (wpAny_listPart .none ?_))))
  rw [if_neg st]
  refine wpAny_bind (wpAny_field a1 a3 (x := va) rfl (wpAny_bind (wpAny_listPart pa (wpAny_bind (wpAny_field a1 a3 (x := vc) rfl (wpAny_bind (wpAny_listPart pc (wpAny_pure ?_))))))))
  first
    | simp only [same, Bool.false_eq_true, if_false]
    | refine PySem.W.KFB.if_not same ?_
    | (dsimp only
       rw [if_neg (by rw [same]; exact Bool.false_ne_true)])
  refine wpAny_bind (m := Builtin.List.listAllItems (.ref b) "must assign iterable to extended slice") ?_
  unfold Builtin.List.listAllItems
  refine wpAny_bind (wpAny_typeOf hb.typeIs ?_)
  first
    | refine PySem.W.KFB.if_so (by decide) ?_
    | rw [if_pos (by decide)]
    | simp only [beq_self_eq_true, Bool.true_or, if_true]
  unfold Builtin.List.listItems
  refine wpAny_bind (wpAny_seqItems e2 rfl (wpAny_pure (wpAny_bind (wpAny_bind (wpAny_seqItems e rfl (wpAny_pure ?_))))))
  refine wpAny_bind (wpAny_of_eq ((sliceIndices_raw (some (a : Int)) (some (c : Int)) none xs.size (by simp)).trans (congrArg (pure : Int × Int × Int → Sem (Int × Int × Int)) (cut_bounds a c xs.size hac ha))) ?_)
  show wpAny _ _ (if ((1 : Int) == 1) = true then _ else _) _ _ s
  rw [if_pos (by decide)]
  refine wpAny_bind (wpAny_rule ?_)
  first
    | simp only [notLongL hz, Bool.false_eq_true, if_false]
    | refine PySem.W.KFB.if_not (notLongL hz) ?_
  first | refine wpAny_bind (wpAny_pure ?_) | skip
  show wpAny _ _ (updateSeq l (fun zs => zs.extract 0 ((a : Int)).toNat ++ ys ++ zs.extract (max (a : Int) ((min c xs.size : Nat) : Int)).toNat zs.size) >>= _) _ _ s
  rw [mx, Int.toNat_natCast]
  refine wpAny_bind (wpAny_updateSeq (hz := Nat.le_trans (Nat.le_add_right _ _) hz) (_hz' := z2) e rfl (wpAny_bind (wpAny_letGo ?_)))
  first
    | exact wpAny_bind (wpAny_pure (wpAny_pure ⟨.none, rfl, wpAny_pure h⟩))
    | exact wpAny_pure ⟨.none, rfl, wpAny_pure h⟩
end
section
variable {X : Cx}
/-- xs[::-1], xs a tuple -/
def tRevT (K : PySem.W.Frag) (te tz : TE) : TE := fun σ H Q => te σ H fun x H1 => tz σ H1 fun z H2 => z = .int (-1) ∧ ∃ a xs, x = .ref a ∧ SqT K H2 a xs ∧ ∀ p o, H2 p = none → o.dict = none → Q (.ref p) (upd H2 p (.frz o (.tup xs.reverse)))
/-- a slice as an index -/
def slO (p : Addr) (lo hi : Option Int) : HO := .ext fun h => ∃ vl vu, h.IsSliceOf p vl vu .none ∧ IsPart vl lo ∧ IsPart vu hi
def tSlE (tl th : TO) : TE := fun σ H Q => tl σ H fun lo H1 => th σ H1 fun hi H2 => ∀ p, H2 p = none → Q (.ref p) (upd H2 p (slO p lo hi))
theorem pe_sliceE {l u : Option Expr} {tl th : TO} {p : Pos} (hl : PO X l tl) (hu : PO X u th) : PE X (.Slice l u none p) (tSlE tl th) := by
  refine ⟨fun pins s σ H Q I h => ?_⟩
  refine wpAny_Slice (thn (hl.run pins s σ H _ I h) fun vl s2 ⟨lo, H2, I2, pl, q2⟩ => thn (hu.run pins s2 σ H2 _ I2 q2) fun vu s3 ⟨hi, H3, I3, pu, q3⟩ => ?_)
  refine (show wpAny _ _ (evalPart none X.env) _ _ _ from wpAny_pure ?_)
  have new : Heap.IsSliceOf (s3.heap.push { cls := .type "slice", data := .fields #[vl, vu, .none] }) s3.heap.objs.size vl vu .none := Heap.IsSliceOf.new _ vl vu .none
  refine ⟨.ref s3.heap.objs.size, _, I3.laid (t' := s3.toks) (fun b o e => Heap.get?_push_of_some _ e) (Nat.le_refl _) ?_, rfl, q3 _ (I3.hok.fresh (Nat.le_refl _))⟩
  obtain ⟨o, e1, e2, e3⟩ := id new
  exact ⟨⟨vl, vu, new, pl, pu⟩, ⟨o, e1⟩, fun h1 h2 z k => by
    obtain ⟨vl', vu', ⟨o', f1, f2, f3⟩, r⟩ := z
    exact ⟨vl', vu', ⟨o', k _ f1, f2, f3⟩, r⟩⟩
def rSetSl : TSet := fun o i v H Q => ∃ (l b sl : Addr) (xs ys : List V) (a c : Nat), o = .ref l ∧ i = .ref sl ∧ v = .ref b ∧ H l = some (.lst xs) ∧ H b = some (.lst ys) ∧ l ≠ b ∧ H sl = some (slO sl (some (a : Int)) (some (c : Int))) ∧ a ≤ c ∧ a ≤ xs.length ∧ xs.length + ys.length ≤ 100000 ∧ Q (upd H l (.lst (xs.take a ++ ys ++ xs.drop c)))
theorem set_sl : PSet X rSetSl := by
  intro pins s σ H o i v ov iv u Q I ro ri rv h
  obtain ⟨l, b, sl, xs, ys, a, c, rfl, rfl, rfl, hl, hb, ne, hs, hac, ha, hz, q⟩ := h
  cases ro
  cases ri
  cases rv
  obtain ⟨vl, vu, is, pa, pc⟩ := (I.hok sl _ hs).1
  obtain ⟨z, its, n, r, hl1, e⟩ := I.lstM hl
  obtain ⟨z2, its2, n2, r2, hl2, e2⟩ := I.lstM hb
  have l1 := r.length
  have l2 := r2.length
  refine put_part (a := a) (c := c) e e2 ne is pa pc hac (by rw [List.size_toArray]; omega) (by rw [List.size_toArray, List.size_toArray, sizeLine_eq]; omega) ⟨upd H l (.lst (xs.take a ++ ys ++ xs.drop c)), ?_, q⟩
  have dc : its.drop (min c its.toArray.size) = its.drop c := by
    rw [List.size_toArray]
    by_cases z : c ≤ its.length
    · rw [Nat.min_eq_left z]
    · rw [Nat.min_eq_right (by omega), List.drop_length, List.drop_of_length_le (by omega)]
  refine I.lset (its' := its.take a ++ its2 ++ its.drop c) (t' := s.toks) hl e ?_ (Vals.append (Vals.append (r.take _) r2) (r.drop _)) ?_
  · rw [← dc]
    exact splice_eq its its2 a _
  · rw [List.length_append, List.length_append, List.length_take, List.length_drop, sizeLine_eq]
    omega
theorem pe_revT {e ze : Expr} {te tz : TE} {p3 pos : Pos} (he : PE X e te) (hz : PE X ze tz) (ev : evalPart (some ze) X.env = eval ze X.env := by rfl) : PE X (.Subscript e (.Slice none none (some ze) p3) pos) (tRevT X.K te tz) := by
  refine ⟨fun pins s σ H Q I h => ?_⟩
  refine Subscript_ (thn (he.run pins s σ H _ I h) fun vv s1 ⟨x, H1, I1, r1, q1⟩ => ?_)
  refine wpAny_Slice (show wpAny _ _ (evalPart none X.env) _ _ _ from wpAny_pure (show wpAny _ _ (evalPart none X.env) _ _ _ from wpAny_pure ?_))
  rw [ev]
  refine thn (hz.run pins s1 σ H1 _ I1 q1) fun vz s4 ⟨z, H4, I4, rz, e1, a, xs, ex, hx, q⟩ => ?_
  subst e1 ex
  cases r1
  obtain ⟨tk, rfl⟩ := rz
  have I5 : Inv X pins σ H4 { s4 with heap := s4.heap.push { cls := .type "slice", data := .fields #[.none, .none, .int (-1) tk] } } := I4.kept (t' := s4.toks) fun b ob z => Heap.get?_push_of_some _ z
  obtain ⟨its, r, ht, hsz⟩ := I5.tuple hx
  have ln := r.length
  show wpAny (model X.prog X.w) X.A (subscriptTail e (.Slice none none (some ze) p3) (.ref a) (.ref s4.heap.objs.size)) (EP X pins σ Q) X.xe _
  refine tail_any (ops := [.ref a, .ref s4.heap.objs.size]) ht.typeIs PyProof.Rows.slot_tuple_getitem.lookup ?_ (by with_unfolding_all rfl)
  refine get_rev ht (Heap.IsSliceOf.new _ _ _ _) (.int (-1) tk) (by rw [List.size_toArray, ← ln]; exact hsz) ?_
  have vr : Vals xs.reverse its.reverse := r.reverse
  have hf : H4 (s4.heap.push { cls := .type "slice", data := .fields #[.none, .none, .int (-1) tk] }).objs.size = none := I5.hok.fresh (Nat.le_refl _)
  have I6 := I5.laid (t' := s4.toks) (o := .frz { cls := .type "tuple", data := .seq its.reverse.toArray } (.tup xs.reverse)) (fun b u e => Heap.get?_push_of_some _ e) (Nat.le_refl _) ⟨Heap.get?_push_size _ rfl, ⟨by rw [List.length_reverse]; exact hsz, its.reverse, vr, PyProof.Rows.IsTup.new _ _⟩⟩
  exact ⟨.ref _, _, I6, rfl, q _ _ hf rfl⟩
theorem pg_subSl {o i : Expr} {to ti : TE} {t : TSet} {pos : Pos} (ho : PE X o to) (hi : PE X i ti) (hs : PSet X t)
    (ha : ∀ v, assign (.Subscript o i pos) X.env v = (do let a ← holding [v] (eval o X.env); let b ← holding [v, a] (eval i X.env); standAt pos; holding [v, a, b] (setItem a b v); release [b, v, a] []) := by intro _; rfl) : PG X (.Subscript o i pos) (gSub to ti t) := by
  refine ⟨fun pins s σ H v u Q I r h => ?_⟩
  rw [ha]
  refine wpAny_bind (wpAny_holding (thn (ho.run pins s σ H _ I h) fun a s1 ⟨x, H1, I1, r1, q1⟩ => wpAny_bind (wpAny_holding (thn (hi.run pins s1 σ H1 _ I1 q1) fun b s2 ⟨y, H2, I2, r2, q2⟩ => ?_))))
  exact wpAny_bind (wpAny_standAt (wpAny_bind (wpAny_holding (thn (hs pins s2 σ H2 x y v a b u _ I2 r1 r2 r q2) fun _ s3 ⟨H3, I3, q3⟩ => wpAny_release ⟨σ, H3, I3, q3⟩))))
/-- tuple(range(..)), an exact object -/
def tTupRgF (te : L2.St → Hp → (Int → Int → Hp → Prop) → Prop) : TE := fun σ H Q => te σ H fun a b H1 => RgOk a b ∧ ∀ q o, H1 q = none → o.dict = none → Q (.ref q) (upd H1 q (.frz o (.tup (rgV a b))))
theorem pe_tupRgF {e : Expr} {te : L2.St → Hp → (Int → Int → Hp → Prop) → Prop} {p pos : Pos} (hc : X.calm = true) (hg : Gl X "tuple") (hm : X.mg "tuple" = none) (he : PRg X e te) (na : starEach [e] X.env = (false, eval e X.env) :: starEach [] X.env := by rfl) : PE X (.Call (.Name "tuple" p) [e] [] pos) (tTupRgF te) := by
  refine ⟨fun pins s σ H Q I h => ?_⟩
  refine Call_ (ld_blt I hg hm boot_tuple (PyProof.Rows.callWith_type1 (args_cons (thn (he pins s σ H _ I h) fun x s1 ⟨r, a, b, t, u, v, H1, ex, hr, I1, ok, q⟩ => args_nil ?_) na) na))
  subst ex
  obtain ⟨b1, b2, b3, b4, b5⟩ := ok
  refine call_tuple_range (n := (b - a).toNat) (I1.ok.hd hc) hr (small_one b1 b2 b3 b4) (rangeSize_nat a b) b5 fun h2 tk acc hk hi => ?_
  have I2 : Inv X pins σ H1 { s1 with heap := h2, toks := tk } := I1.kept hk
  have lz : (rgV a b).length ≤ sizeLine := by rw [rgV_length, sizeLine_eq]; omega
  have I3 := I2.laid (t' := tk) (o := .frz { cls := .type "tuple", data := .seq acc } (.tup (rgV a b))) (fun c o e => Heap.get?_push_of_some _ e) (Nat.le_refl _) ⟨Heap.get?_push_size _ rfl, ⟨lz, acc.toList, vals_rg hi, by rw [Array.toArray_toList]; exact PyProof.Rows.IsTup.new _ _⟩⟩
  exact ⟨.ref _, _, I3, rfl, q _ _ (I2.hok.fresh (Nat.le_refl _)) rfl⟩
end
end TX
end

section
namespace TX
open PySem PySem.Spec PyProof.Rows L2
section
variable {c : Ct} {e : TX.Env} {Q : O → TX.Env → Prop} {o1 o2 : O} {S H : Hp} {ts : List O} {vs : List V} {σ : L2.St}
theorem we_frz {te : TE} (h : WE c te e fun o e1 => nobx o = true ∧ Q (.sh (toD o)) e1) : WE c te e Q := fun S H ts vs σ r Q' k => h S H ts vs σ r Q' fun o v e' S' H' r' ⟨n, q⟩ => by
  obtain ⟨S2, s2, r2⟩ := R.freeze r' n
  exact k _ _ _ _ _ r2 q
theorem wr_addNi {i j : Int} (q : Q (.sh (.int (i + j))) e) : WR c rAddN (.sh (.int i)) (.sh (.int j)) e Q := fun S H ts vs x y σ r Q' k =>
  ⟨j, r.top, .inl ⟨i, r.top2, k _ _ _ _ _ (r.pop.pop.push (d := .int _) rfl) q⟩⟩
theorem wr_addNb {b : Bool} {j : Int} (q : Q (.sh (.int (boolI b + j))) e) : WR c rAddN (.sh (.bl b)) (.sh (.int j)) e Q := fun S H ts vs x y σ r Q' k =>
  ⟨j, r.top, .inr ⟨b, r.top2, k _ _ _ _ _ (r.pop.pop.push (d := .int _) rfl) q⟩⟩
theorem wr_subNi {i j : Int} (q : Q (.sh (.int (i - j))) e) : WR c rSubN (.sh (.int i)) (.sh (.int j)) e Q := fun S H ts vs x y σ r Q' k =>
  .inl ⟨i, j, r.top2, r.top, k _ _ _ _ _ (r.pop.pop.push (d := .int _) rfl) q⟩
theorem wr_subNb {b : Bool} {j : Int} (q : Q (.sh (.int (boolI b - j))) e) : WR c rSubN (.sh (.bl b)) (.sh (.int j)) e Q := fun S H ts vs x y σ r Q' k =>
  .inr (.inl ⟨b, j, r.top2, r.top, k _ _ _ _ _ (r.pop.pop.push (d := .int _) rfl) q⟩)
theorem wr_subNc {i : Int} {b : Bool} (q : Q (.sh (.int (i - boolI b))) e) : WR c rSubN (.sh (.int i)) (.sh (.bl b)) e Q := fun S H ts vs x y σ r Q' k =>
  .inr (.inr ⟨i, b, r.top2, r.top, k _ _ _ _ _ (r.pop.pop.push (d := .int _) rfl) q⟩)
theorem wc_strNi {i : Int} (h : i.natAbs.log2 < 1920) (q : Q (.sh (.str (toString i))) e) : WC c rStrN [.sh (.int i)] e Q := fun S H ts vs us σ r l Q' k => by
  obtain ⟨x, rfl⟩ := vals_one l
  have t : x = V.int i := R.top r
  subst t
  exact .inl ⟨i, rfl, h, k _ _ _ _ _ ((R.pop r).push (d := .str _) rfl) q⟩
theorem wc_strNb {b : Bool} (q : Q (.sh (.str (if b then "True" else "False"))) e) : WC c rStrN [.sh (.bl b)] e Q := fun S H ts vs us σ r l Q' k => by
  obtain ⟨x, rfl⟩ := vals_one l
  have t : x = V.bl b := R.top r
  subst t
  exact .inr ⟨b, rfl, k _ _ _ _ _ ((R.pop r).push (d := .str _) rfl) q⟩
theorem wc_minT {ns : List Int} (n1 : nobx o1 = true) (h : toD o1 = .tup (ns.map D.int)) (hn : 0 < ns.length) (q : ∀ m, m ∈ ns → (∀ y, y ∈ ns → m ≤ y) → Q (.sh (.int m)) e) : WC c (rMinT c.K) [o1] e Q := fun S H ts vs us σ r l Q' k => by
  obtain ⟨x, rfl⟩ := vals_one l
  obtain ⟨S', s, t1, r1⟩ := R.freeze1 r n1
  rw [h] at t1
  simp only [Rep] at t1
  obtain ⟨p, xs, ob, rfl, h1, h0, h2⟩ := t1
  exact ⟨p, ns, rfl, by rw [← reps_int h2]; exact tupQ r1.sub h1, hn, fun m a b => k _ _ _ _ _ (r1.push (d := .int _) rfl) (q m a b)⟩
/-- len(set(xs)), ints -/
theorem we_lenSet {te : TE} {w : World} (h : WE c te e fun o e1 => nobx o = true ∧ ∃ ns : List Int, (toD o = .lst (ns.map D.int) ∨ toD o = .tup (ns.map D.int)) ∧ ns.length ≤ 1000 ∧ ∀ n : Nat, (n = ns.length ↔ ns.Nodup) → Q (.sh (.int (n : Nat))) e1) :
    WE c (tCB (rLenS w) (tCons (tCB (rSetE c.K w) (tCons te tNil)) tNil)) e Q := fun S H ts vs σ r Q' k =>
  h S H ts vs σ r _ fun o v e1 S1 H1 r1 ⟨n1, ns, hd, hn, q⟩ => by
    obtain ⟨S2, s2, t1, r2⟩ := R.freeze1 r1 n1
    have fin : ∀ p n, H1 p = none → (n = ns.length ↔ ns.Nodup) → n < 4096 → rLenS w [V.ref p] (upd H1 p (SetO w p (fun k => decide (k ∈ ns)) n)) Q' := fun p n hp he hl => by
      obtain ⟨r3, s3⟩ := r2.share (u := SetO w p (fun k => decide (k ∈ ns)) n) hp
      exact ⟨p, _, n, rfl, upd_same, hl, k _ _ _ _ _ (r3.push (d := .int _) rfl) (q n he)⟩
    rcases hd with hd | hd
    · rw [hd] at t1
      simp only [Rep] at t1
      obtain ⟨p, xs, rfl, h1, h2⟩ := t1
      exact ⟨p, ns, rfl, .inl (.of (by rw [← reps_int h2]; exact r2.sub _ _ h1)), hn, fin⟩
    · rw [hd] at t1
      simp only [Rep] at t1
      obtain ⟨p, xs, ob, rfl, h1, h0, h2⟩ := t1
      exact ⟨p, ns, rfl, .inr (by rw [← reps_int h2]; exact tupQ r2.sub h1), hn, fin⟩
theorem Reps.append {K : PySem.W.Frag} {S : Hp} : ∀ {ds es : List D} {us ws : List V}, Reps K S ds us → Reps K S es ws → Reps K S (ds ++ es) (us ++ ws)
  | [], es, us, ws, h, k => by
    simp only [Reps] at h
    subst h
    exact k
  | d :: ds, es, us, ws, h, k => by
    simp only [Reps] at h
    obtain ⟨v, r, rfl, h1, h2⟩ := h
    simp only [List.cons_append, Reps]
    exact ⟨v, _, rfl, h1, Reps.append h2 k⟩
theorem Reps.rev {K : PySem.W.Frag} {S : Hp} {ds : List D} {us : List V} (h : Reps K S ds us) : Reps K S ds.reverse us.reverse := by
  induction ds generalizing us with
  | nil =>
    simp only [Reps] at h
    subst h
    simp [Reps]
  | cons d ds ih =>
    simp only [Reps] at h
    obtain ⟨v, r, rfl, h1, h2⟩ := h
    rw [List.reverse_cons, List.reverse_cons]
    exact Reps.append (ih h2) (by simp only [Reps]; exact ⟨v, [], rfl, h1, rfl⟩)
/-- a list that is held alone gets other shared entries -/
theorem R.reLst {ds es : List D} {p : Addr} {xs ys : List V} (r : R c S H (.lst (ds.map O.sh) :: ts) (.ref p :: vs) e σ) (hp : H p = some (.lst xs)) (hd : Reps c.K S es ys) : R c S (upd H p (.lst ys)) (.lst (es.map O.sh) :: ts) (.ref p :: vs) e σ := by
  obtain ⟨p', xs', g, ft, fe, h1, h2, h3, h4, h5, h6⟩ := r.openTop
  obtain rfl : p = p' := V.ref.inj h1
  rw [hp] at h2
  obtain rfl : xs = xs' := HO.lst.inj (Option.some.inj h2)
  refine R.closeTop r hp rfl (reps_all hd) h4 h5 fun a => ?_
  have := h6 a
  (try dsimp only)
  exact ⟨by omega, fun z => this.2 (by omega)⟩
theorem R.elts {ds : List D} {p : Addr} {xs : List V} (r : R c S H (.lst (ds.map O.sh) :: ts) (.ref p :: vs) e σ) (hp : H p = some (.lst xs)) : Reps c.K S ds xs := by
  obtain ⟨p', xs', g, ft, fe, h1, h2, h3, h4, h5, h6⟩ := r.openTop
  obtain rfl : p = p' := V.ref.inj h1
  rw [hp] at h2
  obtain rfl : xs = xs' := HO.lst.inj (Option.some.inj h2)
  have : ∀ {ds : List D} {xs : List V} {g : Fp}, RepOs c.K c.bx S H (ds.map O.sh) xs g → Reps c.K S ds xs := by
    intro ds
    induction ds with
    | nil =>
      intro xs g h
      simp only [List.map_nil, RepOs] at h
      simp only [Reps]
      exact h.1
    | cons d ds ih =>
      intro xs g h
      simp only [List.map_cons, RepOs, RepO] at h
      obtain ⟨v, r', f1, f2, rfl, k1, k2, _⟩ := h
      simp only [Reps]
      exact ⟨v, r', rfl, k1.1, ih k2⟩
  exact this h3
theorem R.two_ne {os ps : List O} {p p2 : Addr} (r : R c S H (.lst os :: .lst ps :: ts) (.ref p :: .ref p2 :: vs) e σ) : p ≠ p2 := by
  obtain ⟨f1, f2, h1, h2, h3⟩ := r.rep
  simp only [RepOs, RepO] at h1
  obtain ⟨v, r', g1, g2, e1, ⟨q, us, g, ev, hq, _, hg⟩, ⟨w, r'', g3, g4, e2, ⟨q2, us2, g', ev2, hq2, _, hg2⟩, _, hs2⟩, hs⟩ := h1
  obtain ⟨a1, a2⟩ := List.cons.inj e1
  subst a2
  obtain ⟨b1, b2⟩ := List.cons.inj e2
  have c1 : q = p := V.ref.inj (ev.symm.trans a1.symm)
  have c2 : q2 = p2 := V.ref.inj (ev2.symm.trans b1.symm)
  intro z
  have k1 := hg p
  have k2 := hg2 p
  rw [c1, if_pos rfl] at k1
  rw [c2, ← z, if_pos rfl] at k2
  have k3 := hs p
  have k4 := hs2 p
  have k5 := (h3 p).1
  omega
def rIns : V → List V → Hp → VK → Prop := fun x ws H Q => ∃ (l : Addr) (xs : List V) (i : Int) (y : V), x = V.ref l ∧ ws = [V.int i, y] ∧ H l = some (.lst xs) ∧ xs.length < sizeLine ∧ 0 ≤ i ∧ i < 2 ^ 63 ∧ Q .non (upd H l (.lst (xs.take i.toNat ++ [y] ++ xs.drop i.toNat)))
theorem mt_ins {X : Cx} : MtR X "list.insert" rIns := mt_insert
/-- xs.insert(k, d) -/
theorem we_insert {i : Nat} {ta : TA} {ls0 : List O} (h0 : e.sl[i]? = some (some (.lst ls0))) (h : WA c ta e fun os e1 => ∃ (k : Nat) (d : D) (ds : List D), os = [.sh (.int (k : Int)), .sh d] ∧ e1.sl[i]? = some (some (.lst (ds.map O.sh))) ∧ k ≤ 1000 ∧ ds.length < 1000 ∧ Q (.sh .non) ⟨e1.sl.set i (some (.lst ((ds.take k ++ [d] ++ ds.drop k).map O.sh))), e1.g⟩) :
    WE c (tBM c.K "list" rIns (tVar i) ta) e Q := by
  refine we_meth h0 ?_
  refine fun S H ts vs σ rr Q' k => h S H ts vs σ rr Q' fun os us e1 S1 H1 r1 l ⟨n, d, ds, e2, e3, e4, e5, q⟩ => k os us e1 S1 H1 r1 l ⟨ds.map O.sh, e3, fun S H ts vs σ p xs us r l hp lx Q' k => ?_⟩
  subst e2
  obtain ⟨u, y, rfl⟩ := vals_two l
  have r2 : R c S H (.lst (ds.map O.sh) :: O.sh (.int (n : Int)) :: O.sh d :: ts) (.ref p :: u :: y :: vs) ⟨e1.sl.set i none, e1.g⟩ σ := r
  have t : u = V.int (n : Int) := r2.pop.top
  subst t
  have ty : Rep c.K S d y := r2.pop.pop.top
  have rx := r2.elts hp
  have r3 : R c S H (.lst (ds.map O.sh) :: ts) (.ref p :: vs) ⟨e1.sl.set i none, e1.g⟩ σ := (R.swap ((R.swap r2).pop)).pop
  have r4 := r3.reLst (es := ds.take n ++ [d] ++ ds.drop n) (ys := xs.take n ++ [y] ++ xs.drop n) hp (Reps.append (Reps.append (rx.take n) (by simp only [Reps]; exact ⟨y, [], rfl, ty, rfl⟩)) (rx.drop n))
  have lx2 := rx.len
  refine ⟨p, xs, n, y, rfl, rfl, hp, by rw [sizeLine_eq]; omega, by omega, by omega, ?_⟩
  rw [Int.toNat_natCast]
  refine k (.sh .non) .non ((ds.take n ++ [d] ++ ds.drop n).map O.sh) _ _ _ (R.swap (R.push (d := .non) (v := .non) r4 rfl)) ?_
  simp only [List.set_set]
  exact q
/-- xs[a:c] = ys, ys made by itself -/
theorem wg_setSl {i : Nat} {tl th : TO} {es : List D} {ls0 : List O} {G : TX.Env → Prop} (h0 : e.sl[i]? = some (some (.lst ls0)))
    (h : WO c tl e fun lo e1 => WO c th e1 fun hi e2 => ∃ (a b : Nat) (ds : List D), lo = some (a : Int) ∧ hi = some (b : Int) ∧ a ≤ b ∧ a ≤ ds.length ∧ ds.length + es.length ≤ 90000 ∧ e2.sl[i]? = some (some (.lst (ds.map O.sh))) ∧ G ⟨e2.sl.set i (some (.lst ((ds.take a ++ es ++ ds.drop b).map O.sh))), e2.g⟩) :
    WG c (gSub (tVar i) (tSlE tl th) rSetSl) (.lst (es.map O.sh)) e G := fun S H ts vs x σ r Q' kk => by
  obtain ⟨v, h1, r1⟩ := r.out h0
  refine ⟨v, h1, ?_⟩
  refine h S H _ _ σ r _ fun lo e1 S1 H1 r2 z => z S1 H1 _ _ σ r2 _ fun hi e2 S2 H2 r3 ⟨a, b, ds, q1, q2, q3, q4, q5, q6, q⟩ => ?_
  subst q1 q2
  intro sl hsl
  obtain ⟨r4, s4⟩ := r3.share (u := slO sl (some (a : Int)) (some (b : Int))) hsl
  obtain ⟨v', k1, r5⟩ := r4.out q6
  rw [h1] at k1
  obtain rfl := Option.some.inj (Option.some.inj k1)
  obtain ⟨p, xs, rfl, k2, k3⟩ := r5.ref_top
  obtain ⟨p2, ys, rfl, k4, k5⟩ := (R.swap r5).ref_top
  have rx := r5.elts k2
  have ry := (R.swap r5).elts k4
  have ne : p ≠ p2 := R.two_ne r5
  have r6 : R c _ _ (.lst (ds.map O.sh) :: ts) (.ref p :: vs) ⟨e2.sl.set i none, e2.g⟩ σ := (R.swap r5).pop
  have r7 := r6.reLst (es := ds.take a ++ es ++ ds.drop b) (ys := xs.take a ++ ys ++ xs.drop b) k2 (Reps.append (Reps.append (rx.take a) ry) (rx.drop b))
  have lx := rx.len
  have ly := ry.len
  refine ⟨p, p2, sl, xs, ys, a, b, rfl, rfl, rfl, k2, k4, ne, upd_same, q3, by omega, by omega, kk _ _ _ _ (r7.inn h1) ?_⟩
  simp only [List.set_set]
  exact q
/-- xs[::-1], xs a tuple -/
theorem we_revT {te tz : TE} (h : WE c te e fun o e1 => WE c tz e1 fun z e2 => z = .sh (.int (-1)) ∧ nobx o = true ∧ ∃ ds, toD o = .tup ds ∧ Q (.sh (.tup ds.reverse)) e2) : WE c (tRevT c.K te tz) e Q := fun S H ts vs σ r Q' k =>
  h S H ts vs σ r _ fun o v e1 S1 H1 r1 q1 => q1 S1 H1 _ _ σ r1 _ fun z y e2 S2 H2 r2 ⟨ez, n, ds, hd, q⟩ => by
    subst ez
    have t : y = V.int (-1) := r2.top
    subst t
    obtain ⟨S3, s3, t1, r3⟩ := R.freeze1 r2.pop n
    rw [hd] at t1
    simp only [Rep] at t1
    obtain ⟨p, xs, ob, rfl, h1, h0, h2⟩ := t1
    refine ⟨rfl, p, xs, rfl, tupQ r3.sub h1, fun z o hz ho => ?_⟩
    have rr := Reps.rev h2
    obtain ⟨S4, r4⟩ := (r3.pushes rr).tuple rr.len hz ho
    exact k _ _ _ _ _ r4 q
/-- tuple(range(a, b)) -/
theorem we_trg2 {ta tb : TE} (h : WE c ta e fun p1 e1 => WE c tb e1 fun p2 e2 => ∃ i j : Int, p1 = .sh (.int i) ∧ p2 = .sh (.int j) ∧ dnOk i j ∧ Q (.sh (.tup (rngD i (j - i).toNat))) e2) : WE c (tTupRgF (tRg2 ta tb)) e Q := fun S H ts vs σ r Q' k =>
  h S H ts vs σ r _ fun o v e1 S1 H1 r1 q1 => q1 S1 H1 _ _ σ r1 _ fun p2 v2 e2 S2 H2 r2 ⟨i, j, e3, e4, bd, q⟩ => by
    subst e3 e4
    have t : v2 = V.int j := r2.top
    have t2 : v = V.int i := r2.pop.top
    subst t t2
    obtain ⟨b1, b2, b3, b4⟩ := bd
    refine ⟨i, j, rfl, rfl, ⟨by omega, by omega, by omega, by omega, by omega⟩, fun z o hz ho => ?_⟩
    have rr := rgV_rep (K := c.K) (S := S2) i j
    obtain ⟨S4, r4⟩ := (r2.pop.pop.pushes rr).tuple rr.len hz ho
    exact k _ _ _ _ _ r4 q
/-- an entry of a list that a name holds alone -/
theorem we_ixO {i : Nat} {ti : TE} {ls0 : List O} (h0 : e.sl[i]? = some (some (.lst ls0))) (h : WE c ti e fun o e1 => ∃ (k : Int) (ds : List D) (d : D), o = .sh (.int k) ∧ e1.sl[i]? = some (some (.lst (ds.map O.sh))) ∧ atI ds k = some d ∧ Q (.sh d) e1) : WE c (tOp (rIx c.K) (tVar i) ti) e Q := fun S H ts vs σ r Q' kk => by
  obtain ⟨v, h1, r1⟩ := r.out h0
  refine ⟨v, h1, h S H ts vs σ r _ fun o y e1 S1 H1 r2 ⟨k, ds, d, e2, e3, e4, q⟩ => ?_⟩
  subst e2
  have t : y = V.int k := r2.top
  subst t
  obtain ⟨v', k1, r4⟩ := r2.pop.out e3
  rw [h1] at k1
  obtain rfl := Option.some.inj (Option.some.inj k1)
  obtain ⟨p, xs, rfl, k2, k3⟩ := r4.ref_top
  have rx := r4.elts k2
  obtain ⟨j, j1, j2⟩ := atI_map rx.len.symm e4
  obtain ⟨z, z1, z2⟩ := rx.get j1
  exact .inl ⟨p, xs, k, z, rfl, rfl, .of k2, j2 z z1, kk _ _ _ _ _ (r2.pop.push z2) q⟩
/-- a part of a list that a name holds alone -/
theorem we_slO {i : Nat} {tl th : TO} {ls0 : List O} (h0 : e.sl[i]? = some (some (.lst ls0))) (h : WO c tl e fun lo e2 => WO c th e2 fun hi e3 => ∃ ds : List D, e3.sl[i]? = some (some (.lst (ds.map O.sh))) ∧ Q (.lst ((cutD ds lo hi).map O.sh)) e3) : WE c (tSl (rSlX c.K) (tVar i) tl th) e Q := fun S H ts vs σ r Q' kk => by
  obtain ⟨v, h1, r1⟩ := r.out h0
  refine ⟨v, h1, h S H ts vs σ r _ fun lo e1 S1 H1 r2 z => z S1 H1 ts vs σ r2 _ fun hi e2 S2 H2 r3 ⟨ds, e3, q⟩ => ?_⟩
  obtain ⟨v', k1, r4⟩ := r3.out e3
  rw [h1] at k1
  obtain rfl := Option.some.inj (Option.some.inj k1)
  obtain ⟨p, xs, rfl, k2, k3⟩ := r4.ref_top
  have rx := r4.elts k2
  have rc := rx.cut lo hi
  exact .inl ⟨p, xs, rfl, .of k2, fun z hz => kk _ _ _ _ _ ((r3.pushes rc).list (by rw [rc.len]; exact (List.length_map _).symm) hz) q⟩
end
end TX
end

section
/-! list(zip(a, b, c)) of three lists. -/
namespace TX
open PySem
open PySem.Sem (wp)
abbrev IsTri (h : Heap) (T : Addr) (a b c : Value) : Prop := h.get? T = some { cls := .type "tuple", data := .seq #[a, b, c] }
theorem typeCall_zip_3 (a b c : Value) : checkTypeCall "zip" ⟨[a, b, c], []⟩ = pure () := by kernel_rfl
theorem newCall_zip_3 (a b c : Value) : checkBuiltinCall "zip.__new__" ⟨[.type "zip", a, b, c], []⟩ = pure () := by kernel_rfl
theorem args_object_init_4 (a b c d : Value) : argsOk "object.__init__" ⟨[a, b, c, d], []⟩ := by
  unfold argsOk; rw [signature?_of (id := "object.__init__") (n := ['_', '_', 't', 'i', 'n', 'i', '_', '_']) (o := ['t', 'c', 'e', 'j', 'b', 'o']) (by kernel_rfl) F.owner_object]; kernel_rfl
theorem zip_no_len : typeLookup (.type "zip") "__len__" = pure none := am_miss_of_fast (by decide +kernel)
theorem zip_no_hint : typeLookup (.type "zip") "__length_hint__" = pure none := am_miss_of_fast (by decide +kernel)
/-- what of a zip stands at all times -/
structure Z3 (h : Heap) (b l1 l2 l3 : Nat) (k : Nat) (xs ys zs : Array Value) : Prop where
  TI : IsTri h (b + 3) (.ref b) (.ref (b + 1)) (.ref (b + 2))
  i1 : h.IsListIter b l1 k
  i2 : h.IsListIter (b + 1) l2 k
  i3 : h.IsListIter (b + 2) l3 k
  x1 : h.IsList l1 xs
  x2 : h.IsList l2 ys
  x3 : h.IsList l3 zs
theorem Z3.at {h h' : Heap} {b l1 l2 l3 : Nat} {k : Nat} {xs ys zs : Array Value} (D : Z3 h b l1 l2 l3 k xs ys zs) (hk : ∀ (c : Nat) o, c = b + 3 ∨ c = b ∨ c = b + 1 ∨ c = b + 2 ∨ c = l1 ∨ c = l2 ∨ c = l3 → h.get? c = some o → h'.get? c = some o) : Z3 h' b l1 l2 l3 k xs ys zs :=
  ⟨hk _ _ (by simp) D.TI, D.i1.at fun o => hk _ o (by simp), D.i2.at fun o => hk _ o (by simp), D.i3.at fun o => hk _ o (by simp), D.x1.at fun o => hk _ o (by simp), D.x2.at fun o => hk _ o (by simp), D.x3.at fun o => hk _ o (by simp)⟩
section
variable {prog : Program} {w : World} {A : Around} {E : Value → Shared → Prop} {s : Shared}
theorem wpAny_updateSeq_tri {T : Addr} {a b c x : Value} {k : Nat} {Q : Unit → Shared → Prop} (hT : IsTri s.heap T a b c)
    (h : ∀ h', h'.get? T = some { cls := .type "tuple", data := .seq ((#[a, b, c] : Array Value).setIfInBounds k x) } → Heap.SameBut T s.heap h' → Q () { s with heap := h' }) :
    wpAny (model prog w) A (updateSeq T (·.setIfInBounds k x)) Q E s := by
  refine wpAny_updateSeq hT rfl (h _ ?_ (Heap.SameBut.update ..))
  rw [Heap.get?_update_self _ hT rfl]
  simp [Obj.mapSeq]
theorem zip3_next_item {b l1 l2 l3 : Nat} {k : Nat} {xs ys zs : Array Value} {x y z u v t : Value} {Q : Value → Shared → Prop} (L1 : l1 < b) (L2 : l2 < b) (L3 : l3 < b)
    (hz : IsZip s.heap (b + 5) (b + 3) (b + 4) .none) (D : Z3 s.heap b l1 l2 l3 k xs ys zs) (hTO : IsTri s.heap (b + 4) u v t) (hx : xs[k]? = some x) (hy : ys[k]? = some y) (hw : zs[k]? = some z)
    (hQ : ∀ h', IsZip h' (b + 5) (b + 3) (b + 4) (rawInt s.heap.objs.size) → Z3 h' b l1 l2 l3 (k + 1) xs ys zs → IsTri h' s.heap.objs.size x y z → h'.objs.size = s.heap.objs.size + 1 →
      (∀ (c : Nat) o, c < b ∨ b + 5 < c → s.heap.get? c = some o → h'.get? c = some o) → Q (.ref s.heap.objs.size) { s with heap := h' }) :
    wpAny (model prog w) A (Builtin.«zip.__next__» ⟨[.ref (b + 5)], []⟩) (fun fin s' => ∃ v, fin = .done (.ret v) ∧ Q v s') E s := by
  obtain ⟨hTI, h1, h2, h3, hl1, hl2, hl3⟩ := D
  show wpAny _ _ (field (.ref (b + 5)) 2 >>= _) _ _ _
  refine wpAny_bind (wpAny_field hz rfl (x := .bool false) rfl ?_)
  show wpAny _ _ (field (.ref (b + 5)) 3 >>= _) _ _ _
  refine wpAny_bind (wpAny_field hz rfl (x := .ref (b + 3)) rfl ?_)
  refine wpAny_bind (wpAny_seqItems hTI rfl ?_)
  show wpAny _ _ (Builtin.SmallTypes.ownedTupleIsFree (.ref (b + 5)) >>= _) _ _ _
  refine wpAny_bind ?_
  unfold Builtin.SmallTypes.ownedTupleIsFree
  refine wpAny_bind (wpAny_field hz rfl (x := .none) rfl (wpAny_pure ?_))
  simp only [if_true]
  refine wpAny_bind (wpAny_rule ?_)
  refine wpAny_bind (wpAny_field hz rfl (x := .ref (b + 4)) rfl ?_)
  refine wpAny_bind (wpAny_setField_rec hz (by simp) fun h₁ hz₁ hs₁ => ?_)
  replace hz₁ : IsZip h₁ (b + 5) (b + 3) (b + 4) .ellipsis := hz₁
  refine wpAny_bind ?_
  simp only [List.zipIdx_cons, List.zipIdx_nil, List.forIn_cons, List.forIn_nil]
  refine wpAny_bind (wpAny_bind (wpAny_onRaise ?_))
  show wpAny _ _ (Builtin.SmallTypes.nextOf (.ref b) >>= _) _ _ _
  refine wpAny_bind (wpAny_nextOf_list_item (s := { s with heap := h₁ }) (h1.extBut hs₁.extBut (by first | omega | (show @Ne Nat _ _; omega))) (hl1.extBut hs₁.extBut (by first | omega | (show @Ne Nat _ _; omega))) hx fun h₂ h1₂ hs₂ => wpAny_pure ?_)
  have hTO₂ : IsTri h₂ (b + 4) u v t := hs₂.extBut _ _ (by first | omega | (show @Ne Nat _ _; omega)) (hs₁.extBut _ _ (by first | omega | (show @Ne Nat _ _; omega)) hTO)
  refine wpAny_bind (wpAny_seqItems hTO₂ rfl ?_)
  refine wpAny_bind (wpAny_updateSeq_tri (s := { s with heap := h₂ }) hTO₂ fun h₃ hTO₃ hs₃ => ?_)
  replace hTO₃ : IsTri h₃ (b + 4) x v t := hTO₃
  refine wpAny_bind (wpAny_letGo (wpAny_pure ?_))
  refine wpAny_bind (wpAny_bind (wpAny_onRaise ?_))
  show wpAny _ _ (Builtin.SmallTypes.nextOf (.ref (b + 1)) >>= _) _ _ _
  refine wpAny_bind (wpAny_nextOf_list_item (s := { s with heap := h₃ }) (((h2.extBut hs₁.extBut (by first | omega | (show @Ne Nat _ _; omega))).extBut hs₂.extBut (by first | omega | (show @Ne Nat _ _; omega))).extBut hs₃.extBut (by first | omega | (show @Ne Nat _ _; omega)))
    (((hl2.extBut hs₁.extBut (by first | omega | (show @Ne Nat _ _; omega))).extBut hs₂.extBut (by first | omega | (show @Ne Nat _ _; omega))).extBut hs₃.extBut (by first | omega | (show @Ne Nat _ _; omega))) hy fun h₄ h2₄ hs₄ => wpAny_pure ?_)
  have hTO₄ : IsTri h₄ (b + 4) x v t := hs₄.extBut _ _ (by first | omega | (show @Ne Nat _ _; omega)) hTO₃
  refine wpAny_bind (wpAny_seqItems hTO₄ rfl ?_)
  refine wpAny_bind (wpAny_updateSeq_tri (s := { s with heap := h₄ }) hTO₄ fun h₅ hTO₅ hs₅ => ?_)
  replace hTO₅ : IsTri h₅ (b + 4) x y t := hTO₅
  refine wpAny_bind (wpAny_letGo (wpAny_pure ?_))
  refine wpAny_bind (wpAny_bind (wpAny_onRaise ?_))
  show wpAny _ _ (Builtin.SmallTypes.nextOf (.ref (b + 2)) >>= _) _ _ _
  refine wpAny_bind (wpAny_nextOf_list_item (s := { s with heap := h₅ }) (((((h3.extBut hs₁.extBut (by first | omega | (show @Ne Nat _ _; omega))).extBut hs₂.extBut (by first | omega | (show @Ne Nat _ _; omega))).extBut hs₃.extBut (by first | omega | (show @Ne Nat _ _; omega))).extBut hs₄.extBut (by first | omega | (show @Ne Nat _ _; omega))).extBut hs₅.extBut (by first | omega | (show @Ne Nat _ _; omega)))
    (((((hl3.extBut hs₁.extBut (by first | omega | (show @Ne Nat _ _; omega))).extBut hs₂.extBut (by first | omega | (show @Ne Nat _ _; omega))).extBut hs₃.extBut (by first | omega | (show @Ne Nat _ _; omega))).extBut hs₄.extBut (by first | omega | (show @Ne Nat _ _; omega))).extBut hs₅.extBut (by first | omega | (show @Ne Nat _ _; omega))) hw fun h₆ h3₆ hs₆ => wpAny_pure ?_)
  have hTO₆ : IsTri h₆ (b + 4) x y t := hs₆.extBut _ _ (by first | omega | (show @Ne Nat _ _; omega)) hTO₅
  refine wpAny_bind (wpAny_seqItems hTO₆ rfl ?_)
  refine wpAny_bind (wpAny_updateSeq_tri (s := { s with heap := h₆ }) hTO₆ fun h₇ hTO₇ hs₇ => ?_)
  replace hTO₇ : IsTri h₇ (b + 4) x y z := hTO₇
  refine wpAny_bind (wpAny_letGo (wpAny_pure (wpAny_pure ?_)))
  refine wpAny_bind (wpAny_seqItems hTO₇ rfl ?_)
  refine wpAny_bind (wpAny_newTuple ?_)
  have hsz : h₇.objs.size = s.heap.objs.size := by rw [hs₇.1, hs₆.1, hs₅.1, hs₄.1, hs₃.1, hs₂.1, hs₁.1]
  have hz₇ : IsZip h₇ (b + 5) (b + 3) (b + 4) .ellipsis := hs₇.extBut _ _ (by first | omega | (show @Ne Nat _ _; omega)) (hs₆.extBut _ _ (by first | omega | (show @Ne Nat _ _; omega)) (hs₅.extBut _ _ (by first | omega | (show @Ne Nat _ _; omega)) (hs₄.extBut _ _ (by first | omega | (show @Ne Nat _ _; omega)) (hs₃.extBut _ _ (by first | omega | (show @Ne Nat _ _; omega)) (hs₂.extBut _ _ (by first | omega | (show @Ne Nat _ _; omega)) hz₁)))))
  have hk₇ : ∀ (c : Nat) o, c ≠ b + 5 → c ≠ b + 4 → c ≠ b → c ≠ b + 1 → c ≠ b + 2 → s.heap.get? c = some o → h₇.get? c = some o := fun c o c1 c2 c3 c4 c5 e =>
    hs₇.extBut _ _ c2 (hs₆.extBut _ _ c5 (hs₅.extBut _ _ c2 (hs₄.extBut _ _ c4 (hs₃.extBut _ _ c2 (hs₂.extBut _ _ c3 (hs₁.extBut _ _ c1 e))))))
  have h1₇ : h₇.IsListIter b l1 (k + 1) := ((((h1₂.extBut hs₃.extBut (by first | omega | (show @Ne Nat _ _; omega))).extBut hs₄.extBut (by first | omega | (show @Ne Nat _ _; omega))).extBut hs₅.extBut (by first | omega | (show @Ne Nat _ _; omega))).extBut hs₆.extBut (by first | omega | (show @Ne Nat _ _; omega))).extBut hs₇.extBut (by first | omega | (show @Ne Nat _ _; omega))
  have h2₇ : h₇.IsListIter (b + 1) l2 (k + 1) := ((h2₄.extBut hs₅.extBut (by first | omega | (show @Ne Nat _ _; omega))).extBut hs₆.extBut (by first | omega | (show @Ne Nat _ _; omega))).extBut hs₇.extBut (by first | omega | (show @Ne Nat _ _; omega))
  have h3₇ : h₇.IsListIter (b + 2) l3 (k + 1) := h3₆.extBut hs₇.extBut (by first | omega | (show @Ne Nat _ _; omega))
  have hzlt : b + 5 < h₇.objs.size := Heap.lt_size hz₇
  show wpAny _ _ (Builtin.SmallTypes.ownedTupleHandOut (.ref (b + 5)) (.ref h₇.objs.size) >>= _) _ _ _
  refine wpAny_bind ?_
  unfold Builtin.SmallTypes.ownedTupleHandOut
  have hz₈ : IsZip (h₇.push { cls := .type "tuple", data := .seq #[x, y, z] }) (b + 5) (b + 3) (b + 4) .ellipsis := Heap.get?_push_of_some _ hz₇
  refine wpAny_bind (wpAny_setField_rec hz₈ (by simp) fun h₉ hz₉ hs₉ => ?_)
  replace hz₉ : IsZip h₉ (b + 5) (b + 3) (b + 4) (rawInt h₇.objs.size) := hz₉
  refine wpAny_setField_rec hz₉ (by simp) fun ha hza hsa => ?_
  replace hza : IsZip ha (b + 5) (b + 3) (b + 4) (rawInt h₇.objs.size) := hza
  have up : ∀ (c : Nat) o, c ≠ b + 5 → h₇.get? c = some o → ha.get? c = some o := fun c o c1 e => hsa.extBut _ _ c1 (hs₉.extBut _ _ c1 (Heap.get?_push_of_some _ e))
  have hTa : IsTri ha h₇.objs.size x y z := hsa.extBut _ _ (Nat.ne_of_gt hzlt) (hs₉.extBut _ _ (Nat.ne_of_gt hzlt) (Heap.get?_push_size _ rfl))
  have hza8 : ha.objs.size = h₇.objs.size + 1 := by rw [hsa.1, hs₉.1, Heap.size_push]
  rw [hsz] at hza hTa hza8
  refine wpAny_pure ⟨_, rfl, ?_⟩
  show Q (.ref h₇.objs.size) _
  rw [hsz]
  have al : ∀ (c : Nat) o, c ≠ b + 5 → c ≠ b + 4 → c ≠ b → c ≠ b + 1 → c ≠ b + 2 → s.heap.get? c = some o → ha.get? c = some o := fun c o c1 c2 c3 c4 c5 e => up c o c1 (hk₇ c o c1 c2 c3 c4 c5 e)
  have low : ∀ {l : Nat}, l < b → ∀ o, s.heap.get? l = some o → ha.get? l = some o := fun h o => al _ o (by first | omega | (show @Ne Nat _ _; omega)) (by first | omega | (show @Ne Nat _ _; omega)) (by first | omega | (show @Ne Nat _ _; omega)) (by first | omega | (show @Ne Nat _ _; omega)) (by first | omega | (show @Ne Nat _ _; omega))
  exact hQ ha hza ⟨al _ _ (by first | omega | (show @Ne Nat _ _; omega)) (by first | omega | (show @Ne Nat _ _; omega)) (by first | omega | (show @Ne Nat _ _; omega)) (by first | omega | (show @Ne Nat _ _; omega)) (by first | omega | (show @Ne Nat _ _; omega)) hTI, h1₇.at fun o => up _ o (by first | omega | (show @Ne Nat _ _; omega)), h2₇.at fun o => up _ o (by first | omega | (show @Ne Nat _ _; omega)), h3₇.at fun o => up _ o (by first | omega | (show @Ne Nat _ _; omega)), hl1.at (low L1), hl2.at (low L2), hl3.at (low L3)⟩ hTa hza8
    fun c o hc => al c o (by first | omega | (show @Ne Nat _ _; omega)) (by first | omega | (show @Ne Nat _ _; omega)) (by first | omega | (show @Ne Nat _ _; omega)) (by first | omega | (show @Ne Nat _ _; omega)) (by first | omega | (show @Ne Nat _ _; omega))
theorem zip3_next_held {b l1 l2 l3 T : Nat} {f : Bool} {oT : Obj} {k : Nat} {xs ys zs : Array Value} {x y z : Value} {Q : Value → Shared → Prop} (L1 : l1 < b) (L2 : l2 < b) (L3 : l3 < b)
    (hz : IsZipHeld s.heap (b + 5) (b + 3) (b + 4) T f) (hT : s.heap.get? T = some oT) (D : Z3 s.heap b l1 l2 l3 k xs ys zs) (hx : xs[k]? = some x) (hy : ys[k]? = some y) (hw : zs[k]? = some z)
    (hQ : ∀ h', IsZipHeld h' (b + 5) (b + 3) (b + 4) T true → Z3 h' b l1 l2 l3 (k + 1) xs ys zs → IsTri h' s.heap.objs.size x y z → h'.objs.size = s.heap.objs.size + 1 →
      (∀ (c : Nat) o, c < b ∨ b + 5 < c → s.heap.get? c = some o → h'.get? c = some o) → Q (.ref s.heap.objs.size) { s with heap := h' }) :
    wpAny (model prog w) A (Builtin.«zip.__next__» ⟨[.ref (b + 5)], []⟩) (fun fin s' => ∃ v, fin = .done (.ret v) ∧ Q v s') E s := by
  obtain ⟨hTI, h1, h2, h3, hl1, hl2, hl3⟩ := D
  show wpAny _ _ (field (.ref (b + 5)) 2 >>= _) _ _ _
  refine wpAny_bind (wpAny_field hz rfl (x := .bool false) rfl ?_)
  show wpAny _ _ (field (.ref (b + 5)) 3 >>= _) _ _ _
  refine wpAny_bind (wpAny_field hz rfl (x := .ref (b + 3)) rfl ?_)
  refine wpAny_bind (wpAny_seqItems hTI rfl ?_)
  show wpAny _ _ (Builtin.SmallTypes.ownedTupleIsFree (.ref (b + 5)) >>= _) _ _ _
  refine wpAny_bind (wpAny_tupleHeld_zip hz hT fun h₁ hz₁ hs₁ => ?_)
  simp only [Bool.false_eq_true, if_false]
  refine wpAny_bind ?_
  rw [← Array.forIn_toList]
  simp only [List.forIn_cons, List.forIn_nil]
  refine wpAny_bind (wpAny_bind (wpAny_holding ?_))
  show wpAny _ _ (Builtin.SmallTypes.nextOf (.ref b) >>= _) _ _ _
  refine wpAny_bind (wpAny_nextOf_list_item (s := { s with heap := h₁ }) (h1.extBut hs₁.extBut (by first | omega | (show @Ne Nat _ _; omega))) (hl1.extBut hs₁.extBut (by first | omega | (show @Ne Nat _ _; omega))) hx fun h₂ h1₂ hs₂ => wpAny_pure ?_)
  refine wpAny_pure ?_
  refine wpAny_bind (wpAny_bind (wpAny_holding ?_))
  show wpAny _ _ (Builtin.SmallTypes.nextOf (.ref (b + 1)) >>= _) _ _ _
  refine wpAny_bind (wpAny_nextOf_list_item (s := { s with heap := h₂ }) ((h2.extBut hs₁.extBut (by first | omega | (show @Ne Nat _ _; omega))).extBut hs₂.extBut (by first | omega | (show @Ne Nat _ _; omega))) ((hl2.extBut hs₁.extBut (by first | omega | (show @Ne Nat _ _; omega))).extBut hs₂.extBut (by first | omega | (show @Ne Nat _ _; omega))) hy fun h₃ h2₃ hs₃ => wpAny_pure ?_)
  refine wpAny_pure ?_
  refine wpAny_bind (wpAny_bind (wpAny_holding ?_))
  show wpAny _ _ (Builtin.SmallTypes.nextOf (.ref (b + 2)) >>= _) _ _ _
  refine wpAny_bind (wpAny_nextOf_list_item (s := { s with heap := h₃ }) (((h3.extBut hs₁.extBut (by first | omega | (show @Ne Nat _ _; omega))).extBut hs₂.extBut (by first | omega | (show @Ne Nat _ _; omega))).extBut hs₃.extBut (by first | omega | (show @Ne Nat _ _; omega))) (((hl3.extBut hs₁.extBut (by first | omega | (show @Ne Nat _ _; omega))).extBut hs₂.extBut (by first | omega | (show @Ne Nat _ _; omega))).extBut hs₃.extBut (by first | omega | (show @Ne Nat _ _; omega))) hw fun h₄ h3₄ hs₄ => wpAny_pure ?_)
  refine wpAny_pure (wpAny_pure ?_)
  show wpAny _ _ (newTuple [x, y, z] >>= _) _ _ _
  refine wpAny_bind (wpAny_newTuple ?_)
  have hsz : h₄.objs.size = s.heap.objs.size := by rw [hs₄.1, hs₃.1, hs₂.1, hs₁.1]
  have hz₄ : IsZipHeld h₄ (b + 5) (b + 3) (b + 4) T true := hs₄.extBut _ _ (by first | omega | (show @Ne Nat _ _; omega)) (hs₃.extBut _ _ (by first | omega | (show @Ne Nat _ _; omega)) (hs₂.extBut _ _ (by first | omega | (show @Ne Nat _ _; omega)) hz₁))
  have hk : ∀ (c : Nat) o, c ≠ b + 5 → c ≠ b → c ≠ b + 1 → c ≠ b + 2 → s.heap.get? c = some o → h₄.get? c = some o := fun c o c1 c2 c3 c4 e => hs₄.extBut _ _ c4 (hs₃.extBut _ _ c3 (hs₂.extBut _ _ c2 (hs₁.extBut _ _ c1 e)))
  have h1₄ : h₄.IsListIter b l1 (k + 1) := (h1₂.extBut hs₃.extBut (by first | omega | (show @Ne Nat _ _; omega))).extBut hs₄.extBut (by first | omega | (show @Ne Nat _ _; omega))
  have h2₄ : h₄.IsListIter (b + 1) l2 (k + 1) := h2₃.extBut hs₄.extBut (by first | omega | (show @Ne Nat _ _; omega))
  refine wpAny_pure ⟨_, rfl, ?_⟩
  show Q (.ref h₄.objs.size) _
  have hp : IsTri (h₄.push { cls := .type "tuple", data := .seq #[x, y, z] }) h₄.objs.size x y z := Heap.get?_push_size _ rfl
  have hz4 : (h₄.push { cls := .type "tuple", data := .seq #[x, y, z] }).objs.size = h₄.objs.size + 1 := Heap.size_push ..
  rw [hsz] at hp hz4 ⊢
  have low : ∀ {l : Nat}, l < b → ∀ o, s.heap.get? l = some o → (h₄.push { cls := .type "tuple", data := .seq #[x, y, z] }).get? l = some o := fun h o e => Heap.get?_push_of_some _ (hk _ o (by first | omega | (show @Ne Nat _ _; omega)) (by first | omega | (show @Ne Nat _ _; omega)) (by first | omega | (show @Ne Nat _ _; omega)) (by first | omega | (show @Ne Nat _ _; omega)) e)
  exact hQ _ (Heap.get?_push_of_some _ hz₄) ⟨Heap.get?_push_of_some _ (hk _ _ (by first | omega | (show @Ne Nat _ _; omega)) (by first | omega | (show @Ne Nat _ _; omega)) (by first | omega | (show @Ne Nat _ _; omega)) (by first | omega | (show @Ne Nat _ _; omega)) hTI), h1₄.at fun o e => Heap.get?_push_of_some _ e, h2₄.at fun o e => Heap.get?_push_of_some _ e, h3₄.at fun o e => Heap.get?_push_of_some _ e, hl1.at (low L1), hl2.at (low L2), hl3.at (low L3)⟩ hp hz4
    fun c o hc e => Heap.get?_push_of_some _ (hk c o (by first | omega | (show @Ne Nat _ _; omega)) (by first | omega | (show @Ne Nat _ _; omega)) (by first | omega | (show @Ne Nat _ _; omega)) (by first | omega | (show @Ne Nat _ _; omega)) e)
theorem zip3_next_end {b l1 l2 l3 T : Nat} {f : Bool} {oT : Obj} {k : Nat} {xs ys zs : Array Value} {Q : Fin → Shared → Prop} (hh : A.handled = none) (L1 : l1 < b)
    (hz : IsZipHeld s.heap (b + 5) (b + 3) (b + 4) T f) (hT : s.heap.get? T = some oT) (D : Z3 s.heap b l1 l2 l3 k xs ys zs) (hx : xs[k]? = none)
    (hE : ∀ h' e, (∀ (c : Nat) o, c < b ∨ b + 5 < c → s.heap.get? c = some o → h'.get? c = some o) → (∃ o, h'.get? e = some o ∧ o.cls = .type "StopIteration") → E (.ref e) { s with heap := h' }) :
    wpAny (model prog w) A (Builtin.«zip.__next__» ⟨[.ref (b + 5)], []⟩) Q E s := by
  obtain ⟨hTI, h1, h2, h3, hl1, hl2, hl3⟩ := D
  show wpAny _ _ (field (.ref (b + 5)) 2 >>= _) _ _ _
  refine wpAny_bind (wpAny_field hz rfl (x := .bool false) rfl ?_)
  show wpAny _ _ (field (.ref (b + 5)) 3 >>= _) _ _ _
  refine wpAny_bind (wpAny_field hz rfl (x := .ref (b + 3)) rfl ?_)
  refine wpAny_bind (wpAny_seqItems hTI rfl ?_)
  show wpAny _ _ (Builtin.SmallTypes.ownedTupleIsFree (.ref (b + 5)) >>= _) _ _ _
  refine wpAny_bind (wpAny_tupleHeld_zip hz hT fun h₁ hz₁ hs₁ => ?_)
  simp only [Bool.false_eq_true, if_false]
  refine wpAny_bind ?_
  rw [← Array.forIn_toList]
  simp only [List.forIn_cons, List.forIn_nil]
  refine wpAny_bind (wpAny_bind (wpAny_holding ?_))
  show wpAny _ _ (Builtin.SmallTypes.nextOf (.ref b) >>= _) _ _ _
  refine wpAny_bind (wpAny_nextOf_list_end (s := { s with heap := h₁ }) hh (h1.extBut hs₁.extBut (by first | omega | (show @Ne Nat _ _; omega))) (hl1.extBut hs₁.extBut (by first | omega | (show @Ne Nat _ _; omega))) hx fun h₂ e hs₂ he => ?_)
  exact hE h₂ e (fun c o hc x => hs₂ _ _ (by first | omega | (show @Ne Nat _ _; omega)) (hs₁.extBut _ _ (by first | omega | (show @Ne Nat _ _; omega)) x)) he
/-- where a zip stands: before its first tuple, or with one that is held -/
def Z3St (h : Heap) (b S : Nat) (k : Nat) : Prop :=
  (k = 0 ∧ IsZip h (b + 5) (b + 3) (b + 4) .none ∧ ∃ u v t, IsTri h (b + 4) u v t) ∨ ∃ (T : Nat) (f : Bool) (oT : Obj), IsZipHeld h (b + 5) (b + 3) (b + 4) T f ∧ h.get? T = some oT ∧ b + 5 < T ∧ T ≠ S
theorem zip3_item {b l1 l2 l3 S : Nat} {k : Nat} {xs ys zs : Array Value} {x y z : Value} {Q : Option Value → Shared → Prop} (L1 : l1 < b) (L2 : l2 < b) (L3 : l3 < b) (hS : S < s.heap.objs.size) (hb : b + 5 < s.heap.objs.size)
    (hst : Z3St s.heap b S k) (D : Z3 s.heap b l1 l2 l3 k xs ys zs) (hx : xs[k]? = some x) (hy : ys[k]? = some y) (hw : zs[k]? = some z)
    (hQ : ∀ h', Z3St h' b S (k + 1) → Z3 h' b l1 l2 l3 (k + 1) xs ys zs → IsTri h' s.heap.objs.size x y z → h'.objs.size = s.heap.objs.size + 1 →
      (∀ (c : Nat) o, c < b ∨ b + 5 < c → s.heap.get? c = some o → h'.get? c = some o) → Q (some (.ref s.heap.objs.size)) { s with heap := h' }) :
    wpAny (model prog w) A (pyNext (.ref (b + 5))) Q E s := by
  have hTy : s.TypeIs (.ref (b + 5)) "zip" := by
    rcases hst with ⟨_, hz, _⟩ | ⟨T, f, oT, hz, _⟩
    · exact ⟨_, hz, rfl⟩
    · exact ⟨_, hz, rfl⟩
  unfold pyNext
  refine wpAny_bind (wpAny_attempt (wpAny_callSpecial?_slot (name := Str.ofString "__next__") hTy F.slot_zip_next (wpAny_call_entry F.slot_zip_next hTy F.entry_zip_next ?_ (F.args_zip_next_1 _))))
  rcases hst with ⟨_, hz, u, v, t, hTO⟩ | ⟨T, f, oT, hz, hT, r1, r2⟩
  · exact zip3_next_item L1 L2 L3 hz D hTO hx hy hw fun h' a1 a2 a3 a4 a5 => wpAny_pure (hQ h' (.inr ⟨s.heap.objs.size, false, _, a1, a3, hb, Nat.ne_of_gt hS⟩) a2 a3 a4 a5)
  · exact zip3_next_held L1 L2 L3 hz hT D hx hy hw fun h' a1 a2 a3 a4 a5 => wpAny_pure (hQ h' (.inr ⟨T, true, oT, a1, a5 _ _ (.inr r1) hT, r1, r2⟩) a2 a3 a4 a5)
theorem zip3_done {b l1 l2 l3 S : Nat} {k : Nat} {xs ys zs : Array Value} {Q : Option Value → Shared → Prop} (hh : A.handled = none) (L1 : l1 < b) (h0 : 0 < k)
    (hst : Z3St s.heap b S k) (D : Z3 s.heap b l1 l2 l3 k xs ys zs) (hx : xs[k]? = none)
    (hQ : ∀ h', (∀ (c : Nat) o, c < b ∨ b + 5 < c → s.heap.get? c = some o → h'.get? c = some o) → Q none { s with heap := h' }) : wpAny (model prog w) A (pyNext (.ref (b + 5))) Q E s := by
  rcases hst with ⟨e0, _⟩ | ⟨T, f, oT, hz, hT, r1, r2⟩
  · omega
  have hTy : s.TypeIs (.ref (b + 5)) "zip" := ⟨_, hz, rfl⟩
  unfold pyNext
  refine wpAny_bind (wpAny_attempt (wpAny_callSpecial?_slot (name := Str.ofString "__next__") hTy F.slot_zip_next
    (wpAny_call_entry F.slot_zip_next hTy F.entry_zip_next (zip3_next_end hh L1 hz hT D hx fun h' e hk he => ?_) (F.args_zip_next_1 _))))
  obtain ⟨o, ho, hc⟩ := he
  refine wpAny_bind (wpAny_isInstance (T := "StopIteration") (b := true) ⟨o, ho, hc⟩ isSubtype_stop ?_)
  exact wpAny_pure (hQ _ hk)
end
end TX
end

section
/-! list(zip(a, b, c)): the walk, the call. -/
namespace TX
open PySem PySem.W PySem.Calls
structure Z3G (xs ys zs : Array Value) (lo : Addr) (h : Heap) (as : List Addr) : Prop where
  rise : as.Pairwise (· < ·)
  above : ∀ a ∈ as, lo < a
  tris : ∀ (j : Nat) (a : Addr), as[j]? = some a → ∃ x y z, xs[j]? = some x ∧ ys[j]? = some y ∧ zs[j]? = some z ∧ IsTri h a x y z
theorem Z3G.there {xs ys zs : Array Value} {lo : Addr} {h : Heap} {as : List Addr} (g : Z3G xs ys zs lo h as) {a : Addr} (ha : a ∈ as) : a < h.objs.size := by
  obtain ⟨j, hj⟩ := List.mem_iff_getElem?.mp ha
  obtain ⟨_, _, _, _, _, _, e⟩ := g.tris j a hj
  exact Heap.lt_size e
theorem Z3St.keep {h h' : Heap} {b S k : Nat} (hSb : b + 5 < S) (st : Z3St h b S k) (hk : ∀ (q : Nat) o, q ≠ S → h.get? q = some o → h'.get? q = some o) : Z3St h' b S k := by
  rcases st with ⟨e, hz, u, v, t, hTO⟩ | ⟨T, f, oT, hz, hT, r1, r2⟩
  · exact .inl ⟨e, hk _ _ (by omega) hz, u, v, t, hk _ _ (by omega) hTO⟩
  · exact .inr ⟨T, f, oT, hk _ _ (by omega) hz, hk _ _ r2 hT, r1, r2⟩
section
variable {prog : Program} {w : World} {A : Around} {s : Shared} {R : Result → Shared → Prop} {xs ys zs : Array Value} {n : Nat}
theorem z3_loop {S b l1 l2 l3 : Nat} (hh : A.handled = none) (hSb : b + 5 < S) (L1 : l1 < b) (L2 : l2 < b) (L3 : l3 < b) (n1 : xs.size = n) (n2 : ys.size = n) (n3 : zs.size = n) (h0 : 0 < n) (hn : n ≤ sizeLine) (res : Value) {h₁ : Heap}
    (hR : ∀ h' tk acc c as, (∀ (q : Nat) o, q ≠ S → q < b ∨ b + 5 < q → h₁.get? q = some o → h'.get? q = some o) → h'.get? S = some { cls := .type "list", dict := none, data := .seq acc c, slots := #[] } → as.length = n → Z3G xs ys zs S h' as →
      acc.toList = as.map Value.ref → R (.ok (.ret res)) { s with heap := h', toks := tk }) :
    ∀ (k i : Nat) (h : Heap) (tk c : Nat) (acc : Array Value) (as : List Addr), n - i = k → i ≤ n → Z3St h b S i → Z3 h b l1 l2 l3 i xs ys zs → (∀ (q : Nat) o, q ≠ S → q < b ∨ b + 5 < q → h₁.get? q = some o → h.get? q = some o) →
      h.get? S = some { cls := .type "list", dict := none, data := .seq acc c, slots := #[] } → acc.toList = as.map Value.ref → as.length = i → Z3G xs ys zs S h as →
      codeAny (model prog w) A (.builtin "list.extend.loop" ⟨[.ref S, .ref (b + 5), res], []⟩) R { s with heap := h, toks := tk } := by
  intro k
  induction k with
  | zero =>
    intro i h tk c acc as hk hi hst hD hkeep hS hacc hal hG
    have hin : i = n := by omega
    refine codeAny_builtin PySem.F.entry_extend_loop ?_
    rw [Around.under_plainId PySem.F.plain_extend_loop _]
    show wpAny _ A.in1 (pyNext (.ref (b + 5)) >>= _) _ _ _
    refine wpAny_bind (zip3_done (s := { s with heap := h, toks := tk }) (A := A.in1) hh L1 (by omega) hst hD (Array.getElem?_eq_none (by omega)) fun h' he => ?_)
    exact wpAny_pure (hR h' tk acc c as (fun q o h1 h2 e => he q o h2 (hkeep q o h1 h2 e)) (he S _ (.inr hSb) hS) (by omega) ⟨hG.rise, hG.above, fun j a hj => by
      obtain ⟨x, y, z, e1, e2, e3, e4⟩ := hG.tris j a hj
      exact ⟨x, y, z, e1, e2, e3, he a _ (.inr (Nat.lt_trans hSb (hG.above a (List.mem_of_getElem? hj)))) e4⟩⟩ hacc)
  | succ k ih =>
    intro i h tk c acc as hk hi hst hD hkeep hS hacc hal hG
    have hlt : i < n := by omega
    have hsz : acc.size = i := by rw [← Array.length_toList, hacc, List.length_map, hal]
    have hSl : S < h.objs.size := Heap.lt_size hS
    refine codeAny_builtin PySem.F.entry_extend_loop ?_
    rw [Around.under_plainId PySem.F.plain_extend_loop _]
    show wpAny _ A.in1 (pyNext (.ref (b + 5)) >>= _) _ _ _
    have ex : xs[i]? = some xs[i] := Array.getElem?_eq_getElem (by omega)
    have ey : ys[i]? = some ys[i] := Array.getElem?_eq_getElem (by omega)
    have ez : zs[i]? = some zs[i] := Array.getElem?_eq_getElem (by omega)
    refine wpAny_bind (zip3_item (s := { s with heap := h, toks := tk }) (S := S) L1 L2 L3 hSl (Nat.lt_trans hSb hSl) hst hD ex ey ez fun h' hst' hD' ht hz hkp => ?_)
    dsimp only at ht hz hkp ⊢
    have hS' := hkp S _ (.inr hSb) hS
    have up : ∀ (q : Nat) o, q ≠ S → h'.get? q = some o → (h'.update S (Obj.mapSeq (·.push (Value.ref h.objs.size)))).get? q = some o := fun q o hb e => (Heap.get?_update_other _ _ (Ne.symm hb)).trans e
    show wpAny _ A.in1 (updateSeq S (·.push (Value.ref h.objs.size)) >>= _) _ _ _
    refine wpAny_bind ?_
    refine wpAny_updateSeq hS' rfl (wpAny_pure ⟨plainId_quiet PySem.F.plain_extend_loop _, ih (i + 1) _ tk _ (acc.push (Value.ref h.objs.size)) (as ++ [h.objs.size]) (by omega) hlt (hst'.keep hSb up)
      (hD'.at fun q o hq => up q o (by omega))
      (fun q o h1 h2 e => up q o h1 (hkp q o h2 (hkeep q o h1 h2 e))) (Heap.get?_update_self _ hS' rfl) (by rw [Array.toList_push, hacc, List.map_append]; rfl) (by rw [List.length_append, hal]; rfl) ⟨?_, ?_, ?_⟩⟩) (by rw [hsz]; omega) (by show (acc.push (Value.ref h.objs.size)).size ≤ sizeLine + 1; rw [Array.size_push, hsz]; omega)
    · refine List.pairwise_append.mpr ⟨hG.rise, List.pairwise_singleton _ _, fun a ha b hb => ?_⟩
      rw [List.mem_singleton.mp hb]
      exact hG.there ha
    · intro a ha
      rcases List.mem_append.mp ha with ha | ha
      · exact hG.above a ha
      · rw [List.mem_singleton.mp ha]; exact hSl
    · intro j a hj
      rcases Nat.lt_trichotomy j as.length with h1 | h1 | h1
      · rw [List.getElem?_append_left h1] at hj
        obtain ⟨x, y, z, e1, e2, e3, e4⟩ := hG.tris j a hj
        have hb := hG.above a (List.mem_of_getElem? hj)
        exact ⟨x, y, z, e1, e2, e3, up a _ (Nat.ne_of_gt hb) (hkp a _ (.inr (Nat.lt_trans hSb hb)) e4)⟩
      · subst h1
        have hb : h.objs.size = a := by simpa using hj
        subst hb
        subst hal
        exact ⟨_, _, _, ex, ey, ez, up _ _ (Nat.ne_of_gt hSl) ht⟩
      · have hnone : (as ++ [h.objs.size])[j]? = none := List.getElem?_eq_none (by rw [List.length_append, List.length_singleton]; omega)
        rw [hnone] at hj; cases hj
end
section
variable {prog : Program} {w : World} {A : Around} {E : Value → Shared → Prop} {s : Shared} {xs ys zs : Array Value} {n b l1 l2 l3 : Nat}
theorem z3_extend {R : Result → Shared → Prop} (hh : A.handled = none) (L1 : l1 < b) (L2 : l2 < b) (L3 : l3 < b) (n1 : xs.size = n) (n2 : ys.size = n) (n3 : zs.size = n) (h0 : 0 < n) (hn : n ≤ sizeLine)
    (hz : IsZip s.heap (b + 5) (b + 3) (b + 4) .none) {u v t : Value} (hTO : IsTri s.heap (b + 4) u v t) (D : Z3 s.heap b l1 l2 l3 0 xs ys zs) (S : Nat) (hSb : b + 5 < S) (res : Value) (c₀ : Nat) (hS : s.heap.get? S = some { cls := .type "list", data := .seq #[] c₀ })
    (hR : ∀ h' tk acc c as, (∀ (q : Nat) o, q ≠ S → q < b ∨ b + 5 < q → s.heap.get? q = some o → h'.get? q = some o) → h'.get? S = some { cls := .type "list", dict := none, data := .seq acc c, slots := #[] } → as.length = n → Z3G xs ys zs S h' as →
      acc.toList = as.map Value.ref → R (.ok (.ret res)) { s with heap := h', toks := tk }) :
    wpAny (model prog w) A.in1 (Builtin.List.listExtendWith (.ref S) (.ref (b + 5)) res)
      (fun fin s' => match fin with | .done f => R (.ok f) s' | .again c' => c'.quiet = true ∧ codeAny (model prog w) A c' R s') (fun e s' => R (.error e) s') s := by
  have hTy : s.TypeIs (.ref (b + 5)) "zip" := ⟨_, hz, rfl⟩
  have hne : S ≠ b + 5 := by omega
  unfold Builtin.List.listExtendWith
  refine wpAny_bind (wpAny_typeOf hTy ?_)
  have h1 : Builtin.List.listSameRef (.ref S) (.ref (b + 5)) = false := by simp [Builtin.List.listSameRef, hne]
  have h2 : (Value.type "zip" == Value.type "list") = false := by decide
  have h3 : (Value.type "zip" == Value.type "tuple") = false := by decide
  simp only [h1, h2, h3, Bool.or_false, Bool.false_eq_true, if_false]
  refine wpAny_bind (wpAny_pyIter_zip hz ?_)
  refine wpAny_bind (wpAny_holding ?_)
  unfold Builtin.List.listLengthHint
  refine wpAny_bind (wpAny_specialOf hTy zip_no_len ?_)
  show wpAny _ A.in1 (specialOf (Value.ref (b + 5)) (Str.ofString "__length_hint__") >>= _) _ _ _
  refine wpAny_bind (wpAny_specialOf hTy zip_no_hint ?_)
  refine wpAny_pure ?_
  show wpAny _ A.in1 (rule "list.extend.makes-room" >>= fun _ => Builtin.List.listTouch (.ref S) >>= fun _ =>
    again (.builtin "list.extend.loop" ⟨[.ref S, .ref (b + 5), res], []⟩)) _ _ _
  refine wpAny_bind (wpAny_rule ?_)
  refine wpAny_bind ?_
  show wpAny _ A.in1 (updateSeq S (·.push .none) >>= fun _ => updateSeq S (·.pop)) _ _ _
  refine wpAny_bind (wpAny_updateSeq hS rfl ?_)
  have hS₂ := Heap.get?_update_self (Obj.mapSeq (·.push Value.none)) hS rfl
  refine wpAny_updateSeq (hz := by seq_fits) hS₂ rfl ?_
  have hS₃ := Heap.get?_update_self (Obj.mapSeq (·.pop)) hS₂ rfl
  have oth : ∀ (q : Nat) o, q ≠ S → s.heap.get? q = some o → ((s.heap.update S (Obj.mapSeq (·.push Value.none))).update S (Obj.mapSeq (·.pop))).get? q = some o :=
    fun q o hb e => (Heap.get?_update_other _ _ (Ne.symm hb)).trans ((Heap.get?_update_other _ _ (Ne.symm hb)).trans e)
  exact wpAny_pure ⟨plainId_quiet PySem.F.plain_extend_loop _, z3_loop (s := s) (h₁ := s.heap) hh hSb L1 L2 L3 n1 n2 n3 h0 hn res hR n 0 _ s.toks _ #[] [] (Nat.sub_zero _) (Nat.zero_le _)
    (.inl ⟨rfl, oth _ _ (by omega) hz, u, v, t, oth _ _ (by omega) hTO⟩) (D.at fun q o hq => oth q o (by omega)) (fun q o h1 _ e => oth q o h1 e) hS₃ rfl rfl ⟨List.Pairwise.nil, (fun _ ha => nomatch ha), (fun j a hj => by simp at hj)⟩⟩
theorem z3_init {R : Result → Shared → Prop} (hh : A.handled = none) (L1 : l1 < b) (L2 : l2 < b) (L3 : l3 < b) (n1 : xs.size = n) (n2 : ys.size = n) (n3 : zs.size = n) (h0 : 0 < n) (hn : n ≤ sizeLine)
    (hz : IsZip s.heap (b + 5) (b + 3) (b + 4) .none) {u v t : Value} (hTO : IsTri s.heap (b + 4) u v t) (D : Z3 s.heap b l1 l2 l3 0 xs ys zs) (S : Nat) (hSb : b + 5 < S) (hS : s.heap.get? S = some { cls := .type "list", data := .seq #[] })
    (hR : ∀ h' tk acc c as, (∀ (q : Nat) o, q ≠ S → q < b ∨ b + 5 < q → s.heap.get? q = some o → h'.get? q = some o) → h'.get? S = some { cls := .type "list", dict := none, data := .seq acc c, slots := #[] } → as.length = n → Z3G xs ys zs S h' as →
      acc.toList = as.map Value.ref → R (.ok (.ret .none)) { s with heap := h', toks := tk }) :
    wpAny (model prog w) A.in1 (Builtin.«list.__init__» ⟨[.ref S, .ref (b + 5)], []⟩)
      (fun fin s' => match fin with | .done f => R (.ok f) s' | .again c' => c'.quiet = true ∧ codeAny (model prog w) A c' R s') (fun e s' => R (.error e) s') s := by
  show wpAny _ _ (do let old ← Builtin.List.listItems (.ref S); Builtin.List.listUpdate (.ref S) (fun _ => #[]); letGo old.toList.reverse; Builtin.List.listExtendWith (.ref S) (.ref (b + 5)) .none) _ _ s
  refine wpAny_bind ?_
  unfold Builtin.List.listItems
  refine wpAny_bind (wpAny_seqItems hS rfl (wpAny_pure ?_))
  show wpAny _ _ (updateSeq S (fun _ => #[]) >>= fun _ => letGo (#[] : Array Value).toList.reverse >>= fun _ => Builtin.List.listExtendWith (.ref S) (.ref (b + 5)) .none) _ _ s
  refine wpAny_bind (wpAny_updateSeq hS rfl ?_)
  have hS₂ := Heap.get?_update_self (Obj.mapSeq (fun _ => (#[] : Array Value))) hS rfl
  have oth : ∀ (q : Nat) o, q ≠ S → s.heap.get? q = some o → (s.heap.update S (Obj.mapSeq (fun _ => (#[] : Array Value)))).get? q = some o :=
    fun q o hb e => (Heap.get?_update_other _ _ (Ne.symm hb)).trans e
  refine wpAny_bind (wpAny_letGo ?_)
  exact z3_extend (s := { s with heap := s.heap.update S (Obj.mapSeq (fun _ => (#[] : Array Value))) }) hh L1 L2 L3 n1 n2 n3 h0 hn (oth _ _ (by omega) hz) (oth _ _ (by omega) hTO) (D.at fun q o hq => oth q o (by omega)) S hSb .none _ hS₂
    fun h' tk acc c as hk hS' hl hG hacc => hR h' tk acc c as (fun q o hb hq e => hk q o hb hq (oth q o hb e)) hS' hl hG hacc
theorem z3_call {Q : Value → Shared → Prop} (hh : A.handled = none) (L1 : l1 < b) (L2 : l2 < b) (L3 : l3 < b) (n1 : xs.size = n) (n2 : ys.size = n) (n3 : zs.size = n) (h0 : 0 < n) (hn : n ≤ sizeLine)
    (hz : IsZip s.heap (b + 5) (b + 3) (b + 4) .none) {u v t : Value} (hTO : IsTri s.heap (b + 4) u v t) (D : Z3 s.heap b l1 l2 l3 0 xs ys zs)
    (hQ : ∀ h' tk acc c as, (∀ (q : Nat) o, q < b ∨ b + 5 < q → s.heap.get? q = some o → h'.get? q = some o) → h'.get? s.heap.objs.size = some { cls := .type "list", dict := none, data := .seq acc c, slots := #[] } → as.length = n → Z3G xs ys zs s.heap.objs.size h' as →
      acc.toList = as.map Value.ref → Q (.ref s.heap.objs.size) { s with heap := h', toks := tk }) :
    wpAny (model prog w) A (call (.type "list") [.ref (b + 5)]) Q E s := by
  refine callType_codes (Q₁ := fun obj s₁ => obj = .ref s.heap.objs.size ∧ s₁ = { s with heap := s.heap.push { cls := .type "list", data := .seq #[] } }) PySem.F.called_list (PySem.F.typeCall_list_1 _) PySem.F.entry_list_init
    (code_list_new _ ⟨rfl, rfl⟩) fun obj s₁ h₁ => ?_
  obtain ⟨rfl, rfl⟩ := h₁
  have hS : (s.heap.push { cls := .type "list", data := .seq #[] }).get? s.heap.objs.size = some { cls := .type "list", data := .seq #[] } := Heap.get?_push_size _ rfl
  refine ⟨⟨_, hS, rfl⟩, PySem.F.args_list_init_2 _ _, z3_init (A := A.in1) (s := { s with heap := s.heap.push { cls := .type "list", data := .seq #[] } }) hh L1 L2 L3 n1 n2 n3 h0 hn (Heap.get?_push_of_some _ hz) (Heap.get?_push_of_some _ hTO) (D.at fun q o _ e => Heap.get?_push_of_some _ e) _ (Heap.lt_size hz) hS (fun h' tk acc c as hk hS' hl hG hacc => ?_)⟩
  exact ⟨rfl, hQ h' tk acc c as (fun q o hq e => hk q o (Nat.ne_of_lt (Heap.lt_size e)) hq (Heap.get?_push_of_some _ e)) hS' hl hG hacc⟩
end
abbrev z3H1 (h : Heap) (l1 : Addr) : Heap := h.push { cls := .type "list_iterator", data := .fields #[.ref l1, .int 0 0] }
abbrev z3H2 (h : Heap) (l1 l2 : Addr) : Heap := (z3H1 h l1).push { cls := .type "list_iterator", data := .fields #[.ref l2, .int 0 0] }
abbrev z3H3 (h : Heap) (l1 l2 l3 : Addr) : Heap := (z3H2 h l1 l2).push { cls := .type "list_iterator", data := .fields #[.ref l3, .int 0 0] }
abbrev z3H4 (h : Heap) (l1 l2 l3 : Addr) : Heap := (z3H3 h l1 l2 l3).push { cls := .type "tuple", data := .seq #[.ref h.objs.size, .ref (z3H1 h l1).objs.size, .ref (z3H2 h l1 l2).objs.size] }
abbrev z3H5 (h : Heap) (l1 l2 l3 : Addr) : Heap := (z3H4 h l1 l2 l3).push { cls := .type "tuple", data := .seq #[.none, .none, .none] }
abbrev z3H6 (h : Heap) (l1 l2 l3 : Addr) : Heap := (z3H5 h l1 l2 l3).push { cls := .type "zip", data := .fields #[.none, .bool false, .bool false, .ref (z3H3 h l1 l2 l3).objs.size, .ref (z3H4 h l1 l2 l3).objs.size] }
theorem meets_zip3_new (l1 l2 l3 : Addr) (xs ys zs : Array Value) :
    Meets (Builtin.«zip.__new__» ⟨[.type "zip", .ref l1, .ref l2, .ref l3], []⟩) (fun _ R s => s.heap.IsList l1 xs ∧ s.heap.IsList l2 ys ∧ s.heap.IsList l3 zs ∧
      R (.ok (.ret (.ref (z3H5 s.heap l1 l2 l3).objs.size))) { s with heap := z3H6 s.heap l1 l2 l3 }) :=
  .of_wp fun prog w A R s h => by
    obtain ⟨hp, g, d, tk, os⟩ := s; obtain ⟨hl1, hl2, hl3, h⟩ := h
    have hsub := sub_zip
    have hL1 : Heap.IsList (Shared.heap ⟨hp, g, d, tk, os⟩) l1 xs := hl1
    have hL2 : Heap.IsList (Shared.heap ⟨hp.push { cls := .type "list_iterator", data := .fields #[.ref l1, .int 0 0] }, g, d, tk, os⟩) l2 ys := Heap.IsList.push hl2 _
    have hL3 : Heap.IsList (Shared.heap ⟨(hp.push { cls := .type "list_iterator", data := .fields #[.ref l1, .int 0 0] }).push { cls := .type "list_iterator", data := .fields #[.ref l2, .int 0 0] }, g, d, tk, os⟩) l3 zs := Heap.IsList.push (Heap.IsList.push hl3 _) _
    wp_walk using wpAny_pyIter_list hL1, wpAny_pyIter_list hL2, wpAny_pyIter_list hL3
    exact ⟨_, rfl, h⟩
section
variable {prog : Program} {w : World} {A : Around} {E : Value → Shared → Prop} {s : Shared}
theorem call_zip_3 {l1 l2 l3 : Nat} {xs ys zs : Array Value} {Q : Value → Shared → Prop} (hl1 : s.heap.IsList l1 xs) (hl2 : s.heap.IsList l2 ys) (hl3 : s.heap.IsList l3 zs)
    (h : ∀ (b : Nat) h', b = s.heap.objs.size → IsZip h' (b + 5) (b + 3) (b + 4) .none → IsTri h' (b + 4) .none .none .none → Z3 h' b l1 l2 l3 0 xs ys zs → h'.objs.size = b + 6 →
      (∀ c o, s.heap.get? c = some o → h'.get? c = some o) → Q (.ref (b + 5)) { s with heap := h' }) :
    wpAny (model prog w) A (call (.type "zip") [.ref l1, .ref l2, .ref l3]) Q E s := by
  refine callType_new F.called_zip (by decide) (typeCall_zip_3 _ _ _) (newCall_zip_3 _ _ _) (fun obj => args_object_init_4 obj _ _ _) F.entry_zip_new
    (meets_zip3_new l1 l2 l3 xs ys zs) ⟨hl1, hl2, hl3, ?_⟩
  have z1 : (z3H1 s.heap l1).objs.size = s.heap.objs.size + 1 := Heap.size_push ..
  have z2 : (z3H2 s.heap l1 l2).objs.size = s.heap.objs.size + 2 := by rw [Heap.size_push, z1]
  have z3 : (z3H3 s.heap l1 l2 l3).objs.size = s.heap.objs.size + 3 := by rw [Heap.size_push, z2]
  have z4 : (z3H4 s.heap l1 l2 l3).objs.size = s.heap.objs.size + 4 := by rw [Heap.size_push, z3]
  have z5 : (z3H5 s.heap l1 l2 l3).objs.size = s.heap.objs.size + 5 := by rw [Heap.size_push, z4]
  have z6 : (z3H6 s.heap l1 l2 l3).objs.size = s.heap.objs.size + 6 := by rw [Heap.size_push, z5]
  have g6 : (z3H6 s.heap l1 l2 l3).get? (z3H5 s.heap l1 l2 l3).objs.size = some _ := Heap.get?_push_size _ rfl
  have g5 : (z3H6 s.heap l1 l2 l3).get? (z3H4 s.heap l1 l2 l3).objs.size = some _ := Heap.get?_push_of_some _ (Heap.get?_push_size _ rfl)
  have g4 : (z3H6 s.heap l1 l2 l3).get? (z3H3 s.heap l1 l2 l3).objs.size = some _ := Heap.get?_push_of_some _ (Heap.get?_push_of_some _ (Heap.get?_push_size _ rfl))
  have g3 : (z3H6 s.heap l1 l2 l3).get? (z3H2 s.heap l1 l2).objs.size = some _ := Heap.get?_push_of_some _ (Heap.get?_push_of_some _ (Heap.get?_push_of_some _ (Heap.get?_push_size _ rfl)))
  have g2 : (z3H6 s.heap l1 l2 l3).get? (z3H1 s.heap l1).objs.size = some _ := Heap.get?_push_of_some _ (Heap.get?_push_of_some _ (Heap.get?_push_of_some _ (Heap.get?_push_of_some _ (Heap.get?_push_size _ rfl))))
  have g1 : (z3H6 s.heap l1 l2 l3).get? s.heap.objs.size = some _ := Heap.get?_push_of_some _ (Heap.get?_push_of_some _ (Heap.get?_push_of_some _ (Heap.get?_push_of_some _ (Heap.get?_push_of_some _ (Heap.get?_push_size _ rfl)))))
  have up : ∀ c o, s.heap.get? c = some o → (z3H6 s.heap l1 l2 l3).get? c = some o := fun c o x => Heap.get?_push_of_some _ (Heap.get?_push_of_some _ (Heap.get?_push_of_some _ (Heap.get?_push_of_some _ (Heap.get?_push_of_some _ (Heap.get?_push_of_some _ x)))))
  show _ ∧ _
  rw [z3, z4, z5] at g6
  rw [z1, z2, z3] at g4
  rw [z4] at g5
  rw [z2] at g3
  rw [z1] at g2
  rw [z5]
  exact ⟨⟨_, g6, rfl⟩, h s.heap.objs.size _ rfl g6 g5 ⟨g4, ⟨_, g1, rfl, rfl⟩, ⟨_, g2, rfl, rfl⟩, ⟨_, g3, rfl, rfl⟩, hl1.at (up _), hl2.at (up _), hl3.at (up _)⟩ z6 up⟩
end
end TX
end

section
/-! list(zip(a, b, c)) over trees of values. -/
namespace TX
open PySem PySem.Spec PyProof.Rows L2
def tri3 {α : Type} : List α → List α → List α → List (List α)
  | a :: as, b :: bs, c :: cs => [a, b, c] :: tri3 as bs cs
  | _, _, _ => []
/-- tuples laid at new addresses, the last one first -/
def putF (H : Hp) : List (Addr × Obj × List V) → Hp
  | [] => H
  | (a, o, vs) :: r => upd (putF H r) a (.frz o (.tup vs))
theorem putF_off {H : Hp} {b : Addr} : ∀ (r : List (Addr × Obj × List V)), b ∉ r.map (·.1) → putF H r b = H b
  | [], _ => rfl
  | (a, o, vs) :: r, h => by
    rw [List.map_cons, List.mem_cons, not_or] at h
    exact (upd_ne h.1).trans (putF_off r h.2)
theorem putF_at {H : Hp} : ∀ (r : List (Addr × Obj × List V)), (r.map (·.1)).Nodup → ∀ t ∈ r, putF H r t.1 = some (.frz t.2.1 (.tup t.2.2))
  | [], _, t, h => by cases h
  | (a, o, vs) :: r, n, t, h => by
    rw [List.map_cons, List.nodup_cons] at n
    rcases List.mem_cons.mp h with rfl | h
    · exact upd_same
    · exact (upd_ne (fun e => n.1 (List.mem_map.mpr ⟨t, h, e⟩))).trans (putF_at r n.2 t h)
theorem tri_rs {h' : Heap} : ∀ {us vs ws : List V} {xs ys zs : List Value} {as : List Addr}, Vals us xs → Vals vs ys → Vals ws zs → us.length = vs.length → us.length = ws.length → as.length = us.length →
    (∀ (j : Nat) (a : Addr), as[j]? = some a → ∃ x y z, xs[j]? = some x ∧ ys[j]? = some y ∧ zs[j]? = some z ∧ IsTri h' a x y z) →
    ∃ rs : List (Addr × Obj × List V), rs.map (·.1) = as ∧ rs.map (·.2.2) = tri3 us vs ws ∧ ∀ t ∈ rs, t.2.1.dict = none ∧ h'.get? t.1 = some t.2.1 ∧ t.2.2.length ≤ sizeLine ∧ ∃ its : List Value, Vals t.2.2 its ∧ IsTup h' t.1 its.toArray
  | [], _, _, _, _, _, [], _, _, _, _, _, _, _ => ⟨[], rfl, by simp [tri3], fun _ h => by cases h⟩
  | [], _, _, _, _, _, _ :: _, _, _, _, _, _, l, _ => by simp at l
  | _ :: _, _, _, _, _, _, [], _, _, _, _, _, l, _ => by simp at l
  | _ :: _, [], _, _, _, _, _ :: _, _, _, _, l, _, _, _ => by simp at l
  | _ :: _, _ :: _, [], _, _, _, _ :: _, _, _, _, _, l, _, _ => by simp at l
  | u :: us, v :: vs, w :: ws, _, _, _, a :: as, .cons r1 t1, .cons r2 t2, .cons r3 t3, l1, l2, l3, g => by
    obtain ⟨rs, e1, e2, e3⟩ := tri_rs t1 t2 t3 (by simpa using l1) (by simpa using l2) (by simpa using l3) (fun j b hj => by
      obtain ⟨x, y, z, f1, f2, f3, f4⟩ := g (j + 1) b (by simpa using hj)
      exact ⟨x, y, z, by simpa using f1, by simpa using f2, by simpa using f3, f4⟩)
    obtain ⟨x, y, z, f1, f2, f3, f4⟩ := g 0 a rfl
    have g1 : _ = x := Option.some.inj f1
    have g2 : _ = y := Option.some.inj f2
    have g3 : _ = z := Option.some.inj f3
    rw [g1] at r1
    rw [g2] at r2
    rw [g3] at r3
    refine ⟨(a, { cls := .type "tuple", data := .seq #[x, y, z] }, [u, v, w]) :: rs, by rw [List.map_cons, e1], by rw [List.map_cons, e2]; rfl, fun t ht => ?_⟩
    rcases List.mem_cons.mp ht with rfl | ht
    · exact ⟨rfl, f4, (by decide : 3 ≤ sizeLine), _, .cons r1 (.cons r2 (.cons r3 .nil)), ⟨_, f4, rfl, _, rfl⟩⟩
    · exact e3 t ht
section
variable {X : Cx} {pins : List (Addr × Obj)} {σ : L2.St} {H : Hp} {s : Shared}
theorem zip_laid {h' : Heap} {tk : Nat} {us vs ws : List V} {xs ys zs acc : Array Value} {c S : Nat} {as : List Addr} (I : Inv X pins σ H s) (hz : us.length ≤ sizeLine) (l2 : us.length = vs.length) (l3 : us.length = ws.length)
    (r1 : Vals us xs.toList) (r2 : Vals vs ys.toList) (r3 : Vals ws zs.toList) (hSl : s.heap.objs.size ≤ S)
    (hk : ∀ b o, s.heap.get? b = some o → h'.get? b = some o) (hS : h'.get? S = some { cls := .type "list", dict := none, data := .seq acc c, slots := #[] }) (hl : as.length = us.length) (hG : Z3G xs ys zs S h' as) (hacc : acc.toList = as.map Value.ref) :
    ∃ rs : List (Addr × Obj × List V), rs.map (·.2.2) = tri3 us vs ws ∧ (∀ t ∈ rs, t.2.1.dict = none ∧ H t.1 = none) ∧ (rs.map (·.1)).Nodup ∧ H S = none ∧ S ∉ rs.map (·.1) ∧
      Inv X pins σ (upd (putF H rs) S (.lst (rs.map fun t => V.ref t.1))) { s with heap := h', toks := tk } := by
  obtain ⟨rs, e1, e2, e3⟩ := tri_rs (h' := h') r1 r2 r3 l2 l3 hl (fun j a hj => by
    obtain ⟨x, y, z, f1, f2, f3, f4⟩ := hG.tris j a hj
    exact ⟨x, y, z, by rw [Array.getElem?_toList]; exact f1, by rw [Array.getElem?_toList]; exact f2, by rw [Array.getElem?_toList]; exact f3, f4⟩)
  have hSn : S ∉ as := fun z => Nat.lt_irrefl _ (hG.above _ z)
  have nd : as.Nodup := List.Pairwise.imp (fun {a b} (h : a < b) => Nat.ne_of_lt h) hG.rise
  have new : ∀ t ∈ as, H t = none := fun t ht => I.hok.fresh (Nat.le_trans hSl (Nat.le_of_lt (hG.above t ht)))
  have newS : H S = none := I.hok.fresh hSl
  have low : ∀ b o, s.heap.get? b = some o → b ∉ as ∧ b ≠ S := fun b o e => ⟨fun z => absurd (Heap.lt_size e) (Nat.not_lt.mpr (Nat.le_trans hSl (Nat.le_of_lt (hG.above b z)))), fun z => absurd (Heap.lt_size e) (Nat.not_lt.mpr (by rw [z]; exact hSl))⟩
  have off : ∀ b, b ∉ as → b ≠ S → upd (putF H rs) S (.lst (rs.map fun t => V.ref t.1)) b = H b := fun b h1 h2 => by rw [upd_ne h2, putF_off rs (by rw [e1]; exact h1)]
  have kp : ∀ b u, H b = some u → upd (putF H rs) S (.lst (rs.map fun t => V.ref t.1)) b = some u := fun b u e => by
    rw [off b (fun z => by rw [new b z] at e; cases e) (fun z => by rw [z, newS] at e; cases e)]
    exact e
  have er : (rs.map fun t => V.ref t.1) = as.map V.ref := by rw [← e1, List.map_map]; rfl
  refine ⟨rs, e2, fun t ht => ⟨(e3 t ht).1, new _ (by rw [← e1]; exact List.mem_map_of_mem ht)⟩, by rw [e1]; exact nd, newS, by rw [e1]; exact hSn, ?_⟩
  refine I.call' (ch := []) rfl ⟨fun b o q _ _ _ => hk b o q, fun b o q _ _ _ => ⟨o.slots, hk b o q⟩, fun b o q n _ => ?_, fun b o q _ => ⟨o, hk b o q⟩, fun b xs q => kp b _ q, fun b o u q => kp b _ q, fun b ps q => ⟨#[], by rw [kp b _ q]; simp⟩⟩ (fun b u q => ?_) I.bare fun b z => by simp at z
  · obtain ⟨z1, z2⟩ := low b o q
    rw [off b z1 z2]
    exact n
  · by_cases hb2 : b = S
    · rw [hb2] at q ⊢
      rw [upd_same] at q
      cases q
      refine ⟨by rw [er, List.length_map, hl]; exact hz, acc.toList, c, by rw [hacc, er]; exact LiI.vals_refs as, ?_⟩
      rw [Array.toArray_toList]
      exact hS
    · by_cases hb : b ∈ as
      · rw [← e1] at hb
        obtain ⟨t, ht, rfl⟩ := List.mem_map.mp hb
        rw [upd_ne hb2, putF_at rs (by rw [e1]; exact nd) t ht] at q
        cases q
        obtain ⟨d1, d2, d3, its, d4, d5⟩ := e3 t ht
        exact ⟨d2, d3, its, d4, d5⟩
      · rw [off b hb hb2] at q
        exact (I.hok b u q).stay (fun d v _ y => hk d v y) (fun d y => kp d _ y) fun d xs y => kp d _ y
def tLstZip (ta : TA) : TE := fun σ H Q => ta σ H fun xs H1 => ∃ (p q r : Addr) (us vs ws : List V), xs = [.ref p, .ref q, .ref r] ∧ H1 p = some (.lst us) ∧ H1 q = some (.lst vs) ∧ H1 r = some (.lst ws) ∧ us.length = vs.length ∧ us.length = ws.length ∧ 0 < us.length ∧ us.length ≤ 1000 ∧
  ∀ (l : Addr) (rs : List (Addr × Obj × List V)), rs.map (·.2.2) = tri3 us vs ws → (∀ t ∈ rs, t.2.1.dict = none ∧ H1 t.1 = none) → (rs.map (·.1)).Nodup → H1 l = none → l ∉ rs.map (·.1) → Q (.ref l) (upd (putF H1 rs) l (.lst (rs.map fun t => V.ref t.1)))
theorem pe_listZip {a b d : Expr} {ta : TA} {p pos p2 pos2 : Pos} (hc : X.calm = true) (hg : Gl X "list") (hm : X.mg "list" = none) (hg2 : Gl X "zip") (hm2 : X.mg "zip" = none) (ha : PA X [a, b, d] ta)
    (hs : starEach [a, b, d] X.env = (false, eval a X.env) :: starEach [b, d] X.env := by rfl) (hpl : (backTo pos2 (starEach [b, d] X.env)).any (·.1) = false := by rfl)
    (na : starEach [Expr.Call (.Name "zip" p2) [a, b, d] [] pos2] X.env = (false, eval (.Call (.Name "zip" p2) [a, b, d] [] pos2) X.env) :: starEach [] X.env := by rfl) :
    PE X (.Call (.Name "list" p) [.Call (.Name "zip" p2) [a, b, d] [] pos2] [] pos) (tLstZip ta) := by
  refine ⟨fun pins s σ H Q I h => ?_⟩
  have inner : wpAny (model X.prog X.w) X.A (eval (.Call (.Name "zip" p2) [a, b, d] [] pos2) X.env) (fun x s' => ∃ (s0 : Shared) (h0 : Heap) (H1 : Hp) (l1 l2 l3 : Nat) (us vs ws : List V) (xs ys zs : Array Value), x = .ref (s0.heap.objs.size + 5) ∧ s' = { s0 with heap := h0 } ∧ Inv X pins σ H1 s0 ∧
      l1 < s0.heap.objs.size ∧ l2 < s0.heap.objs.size ∧ l3 < s0.heap.objs.size ∧ Vals us xs.toList ∧ Vals vs ys.toList ∧ Vals ws zs.toList ∧ us.length = vs.length ∧ us.length = ws.length ∧ 0 < us.length ∧ us.length ≤ 1000 ∧
      IsZip h0 (s0.heap.objs.size + 5) (s0.heap.objs.size + 3) (s0.heap.objs.size + 4) .none ∧ IsTri h0 (s0.heap.objs.size + 4) .none .none .none ∧ Z3 h0 s0.heap.objs.size l1 l2 l3 0 xs ys zs ∧ h0.objs.size = s0.heap.objs.size + 6 ∧ (∀ c o, s0.heap.get? c = some o → h0.get? c = some o) ∧
      ∀ (l : Addr) (rs : List (Addr × Obj × List V)), rs.map (·.2.2) = tri3 us vs ws → (∀ t ∈ rs, t.2.1.dict = none ∧ H1 t.1 = none) → (rs.map (·.1)).Nodup → H1 l = none → l ∉ rs.map (·.1) → Q (.ref l) (upd (putF H1 rs) l (.lst (rs.map fun t => V.ref t.1)))) X.xe s := by
    refine Call_ (ld_blt I hg2 hm2 PyProof.Rows.boot_zip (PyProof.Rows.callWith_type1 (thn (ha.run pos2 pins s σ H _ I h) fun us s1 ⟨vs, H1, I1, r1, l1, l2, l3, a1, a2, a3, e, b1, b2, b3, c1, c2, c3, c4, q⟩ => ?_) hs hpl))
    subst e
    cases r1 with
    | cons r rest =>
      cases rest with
      | cons r' rest =>
        cases rest with
        | cons r'' rest =>
          cases rest
          cases r
          cases r'
          cases r''
          obtain ⟨its, rv, p1, _⟩ := I1.list (.of b1)
          obtain ⟨its2, rv2, p2, _⟩ := I1.list (.of b2)
          obtain ⟨its3, rv3, p3, _⟩ := I1.list (.of b3)
          refine call_zip_3 p1.isList p2.isList p3.isList fun b h' eb hz hTO D hsz hk => ?_
          subst eb
          exact ⟨s1, h', H1, l1, l2, l3, a1, a2, a3, _, _, _, rfl, rfl, I1, p1.lt, p2.lt, p3.lt, by simpa using rv, by simpa using rv2, by simpa using rv3, c1, c2, c3, c4, hz, hTO, D, hsz, hk, q⟩
  refine Call_ (ld_blt I hg hm boot_list (PyProof.Rows.callWith_type1 (args_cons (thn inner fun x s1 ⟨s0, h0, H1, l1, l2, l3, us, vs, ws, xs, ys, zs, ex, es, I1, a1, a2, a3, b1, b2, b3, c1, c2, c3, c4, hz, hTO, D, hsz, hk, q⟩ => args_nil ?_) na) na))
  subst ex es
  have n1 : xs.size = us.length := (Array.length_toList).symm.trans b1.length.symm
  have n2 : ys.size = us.length := (Array.length_toList).symm.trans (b2.length.symm.trans c1.symm)
  have n3 : zs.size = us.length := (Array.length_toList).symm.trans (b3.length.symm.trans c2.symm)
  have hn : us.length ≤ sizeLine := by rw [sizeLine_eq]; omega
  refine z3_call (s := { s0 with heap := h0 }) (I1.ok.hd hc) a1 a2 a3 n1 n2 n3 c3 hn hz hTO D fun h' tk acc c as hk' hS hl hG hacc => ?_
  obtain ⟨rs, k1, k2, k3, k4, k5, J⟩ := zip_laid (tk := tk) I1 hn c1 c2 b1 b2 b3 (by show s0.heap.objs.size ≤ h0.objs.size; rw [hsz]; exact Nat.le_add_right _ _) (fun b o e => hk' b o (.inl (Heap.lt_size e)) (hk b o e)) hS hl hG hacc
  exact ⟨.ref h0.objs.size, _, J, rfl, q _ rs k1 k2 k3 k4 k5⟩
end
section
variable {c : Ct} {e : TX.Env} {σ : L2.St} {S H : Hp} {ts : List O} {vs : List V} {Q : O → TX.Env → Prop}
theorem R.tuple2 {ds : List D} {us : List V} {p : Addr} {o : Obj} (r : R c S H (ds.map O.sh ++ ts) (us ++ vs) e σ) (l : us.length = ds.length) (hp : H p = none) (ho : o.dict = none) :
    ∃ S', Same S S' ∧ R c S' (upd H p (.frz o (.tup us))) (.sh (.tup ds) :: ts) (.ref p :: vs) e σ := by
  have a := r.sh_all l
  obtain ⟨r2, sm⟩ := (r.pops (by rw [l, List.length_map])).share (u := .frz o (.tup us)) hp
  refine ⟨_, sm, r2.push ?_⟩
  simp only [Rep]
  exact ⟨p, us, o, rfl, upd_same, ho, Reps.mono sm _ _ a⟩
theorem R.tris (r : R c S H ts vs e σ) : ∀ {as bs cs : List D} {xs ys zs : List V} {rs : List (Addr × Obj × List V)}, Reps c.K S as xs → Reps c.K S bs ys → Reps c.K S cs zs → rs.map (·.2.2) = tri3 xs ys zs → as.length = bs.length → as.length = cs.length → (∀ t ∈ rs, t.2.1.dict = none ∧ H t.1 = none) → (rs.map (·.1)).Nodup →
    ∃ S', Same S S' ∧ R c S' (putF H rs) (((tri3 as bs cs).map fun t => O.sh (.tup t)) ++ ts) ((rs.map fun t => V.ref t.1) ++ vs) e σ
  | [], _, _, xs, ys, zs, rs, h1, h2, h3, er, l1, l2, hd, nd => by
    simp only [Reps] at h1
    subst h1
    have e0 : rs = [] := List.map_eq_nil_iff.mp (er.trans (by simp [tri3]))
    subst e0
    exact ⟨S, Same.refl S, by simpa [tri3, putF] using r⟩
  | _ :: _, [], _, _, _, _, _, _, _, _, _, l1, _, _, _ => by simp at l1
  | _ :: _, _ :: _, [], _, _, _, _, _, _, _, _, _, l2, _, _ => by simp at l2
  | a :: as, b :: bs, d :: ds, xs, ys, zs, rs, h1, h2, h3, er, l1, l2, hd, nd => by
    simp only [Reps] at h1 h2 h3
    obtain ⟨x, xs, rfl, x1, x2⟩ := h1
    obtain ⟨y, ys, rfl, y1, y2⟩ := h2
    obtain ⟨z, zs, rfl, z1, z2⟩ := h3
    cases rs with
    | nil => simp [tri3] at er
    | cons t rs =>
      obtain ⟨q, o, us⟩ := t
      obtain ⟨eu, er2⟩ := List.cons.inj (show us :: rs.map (·.2.2) = [x, y, z] :: tri3 xs ys zs from er)
      subst eu
      rw [List.map_cons, List.nodup_cons] at nd
      obtain ⟨S1, s1, r1⟩ := R.tris r x2 y2 z2 er2 (by simpa using l1) (by simpa using l2) (fun t ht => hd t (List.mem_cons_of_mem _ ht)) nd.2
      obtain ⟨hq1, hq2⟩ := hd _ List.mem_cons_self
      have r2 := ((r1.push (Rep.mono s1 _ _ z1)).push (Rep.mono s1 _ _ y1)).push (Rep.mono s1 _ _ x1)
      obtain ⟨S2, s2, r3⟩ := R.tuple2 (ds := [a, b, d]) (us := [x, y, z]) (p := q) (o := o) r2 rfl ((putF_off rs nd.1).trans hq2) hq1
      exact ⟨S2, fun _ _ w => s2 _ _ (s1 _ _ w), r3⟩
/-- list(zip(as, bs, cs)) -/
theorem we_lzip {ta : TA} (h : WA c ta e fun os e1 => ∃ as bs cs : List D, os = [.sh (.lst as), .sh (.lst bs), .sh (.lst cs)] ∧ as.length = bs.length ∧ as.length = cs.length ∧ 0 < as.length ∧ as.length ≤ 1000 ∧ Q (.lst ((tri3 as bs cs).map fun t => O.sh (.tup t))) e1) :
    WE c (tLstZip ta) e Q := fun S H ts vs σ rr Q' k =>
  h S H ts vs σ rr _ fun os us e1 S1 H1 r1 l ⟨as, bs, cs, eo, l1, l2, l3, l4, q⟩ => by
    subst eo
    match us, l with
    | [u, v, w], _ =>
      have tu : Rep c.K S1 (.lst as) u := R.top r1
      have tv : Rep c.K S1 (.lst bs) v := R.top (R.pop r1)
      have tw : Rep c.K S1 (.lst cs) w := R.top (R.pop (R.pop r1))
      have r0 : R c S1 H1 ts vs e1 _ := R.pop (R.pop (R.pop r1))
      simp only [Rep] at tu tv tw
      obtain ⟨p, xs, rfl, x1, x2⟩ := tu
      obtain ⟨p2, ys, rfl, y1, y2⟩ := tv
      obtain ⟨p3, zs, rfl, z1, z2⟩ := tw
      have n1 := x2.len
      have n2 := y2.len
      have n3 := z2.len
      refine ⟨p, p2, p3, xs, ys, zs, rfl, r0.sub _ _ x1, r0.sub _ _ y1, r0.sub _ _ z1, by omega, by omega, by omega, by omega, fun l rs h1 h2 h3 h4 h5 => ?_⟩
      obtain ⟨S2, s2, r2⟩ := R.tris r0 x2 y2 z2 h1 l1 l2 h2 h3
      refine k _ _ _ _ _ (R.list r2 ?_ ((putF_off rs h5).trans h4)) q
      have e3 : ∀ {as bs cs : List D} {xs ys zs : List V}, as.length = bs.length → as.length = cs.length → xs.length = as.length → ys.length = bs.length → zs.length = cs.length → (tri3 xs ys zs).length = (tri3 as bs cs).length := by
        intro as
        induction as with
        | nil =>
          intro bs cs xs ys zs a1 a2 a3 a4 a5
          obtain rfl := List.length_eq_zero_iff.mp a3
          simp [tri3]
        | cons a as ih =>
          intro bs cs xs ys zs a1 a2 a3 a4 a5
          match bs, cs, xs, ys, zs, a1, a2, a3, a4, a5 with
          | b :: bs, d :: ds, x :: xs, y :: ys, z :: zs, a1, a2, a3, a4, a5 =>
            simp only [tri3, List.length_cons]
            rw [ih (by simpa using a1) (by simpa using a2) (by simpa using a3) (by simpa using a4) (by simpa using a5)]
      have e4 := congrArg List.length h1
      rw [List.length_map] at e4
      rw [List.length_map, List.length_map, e4]
      exact e3 l1 l2 n1 n2 n3
end
end TX
end

section
/-! enumerate of a tuple, sorted pairs, the truth of a list, targets in targets, xs[i] += e. -/
namespace TX
open PySem PySem.Spec PyProof.Rows L2
theorem Draws.tup {prog : Program} {w : World} {A : Around} (hh : A.handled = none) (it l : Addr) (hne : l ≠ it) (items : Array Value) :
    Draws prog w A it [it, l] items.size (fun i v => items[i]? = some v) (fun i h => h.IsTupleIter it l i ∧ h.IsTuple l items) where
  live := fun _ _ st => let ⟨o, ho, _⟩ := st.1; ⟨o, ho⟩
  frame := fun _ _ _ st hk => ⟨st.1.at fun o e => hk it (by simp) o e, st.2.at fun o e => hk l (by simp) o e⟩
  item := fun i s Q E hi st hQ => by
    refine RZ.nextOf_tuple_item st.1 st.2 (x := items[i]) (by simp [hi]) fun h' hit' hs' => ?_
    exact hQ _ h' s.toks (by simp [hi]) ⟨hit', st.2.at fun o e => hs'.extBut _ _ hne e⟩ hs'
  done := fun s Q E st hE => RZ.nextOf_tuple_end hh st.1 st.2 (by simp) hE
set_option maxHeartbeats 1000000 in
theorem meets_enumerate_newT (l : Addr) (items : Array Value) :
    Meets (Builtin.«enumerate.__new__» ⟨[.type "enumerate", .ref l], []⟩) (fun _ R s => s.heap.IsTuple l items ∧
      R (.ok (.ret (.ref (s.heap.push { cls := .type "tuple_iterator", data := .fields #[.ref l, .int 0 0] }).objs.size)))
        { s with heap := (s.heap.push { cls := .type "tuple_iterator", data := .fields #[.ref l, .int 0 0] }).push { cls := .type "enumerate", data := .fields #[.none, .bool false, .ref s.heap.objs.size, rawInt 0, .none, .none] } }) :=
  .of_wp fun prog w A R s h => by
    obtain ⟨hp, g, d, tk, os⟩ := s; obtain ⟨hl, h⟩ := h
    have hsub := sub_enumerate
    have hL : Heap.IsTuple (Shared.heap ⟨hp, g, d, tk, os⟩) l items := hl
    wp_walk
    refine wpAny_stack_any fun st => wpAny_pure ?_
    split
    · rename_i c _ _ _ _ _
      cases (c == Value.type "enumerate")
      · wp_walk using wpAny_pyIter_tuple hL
        exact ⟨_, rfl, h⟩
      · wp_walk using wpAny_pyIter_tuple hL
        exact ⟨_, rfl, h⟩
    · wp_walk using wpAny_pyIter_tuple hL
      exact ⟨_, rfl, h⟩
theorem call_enumerate_tup {prog : Program} {w : World} {A : Around} {E : Value → Shared → Prop} {s : Shared} {l : Addr} {items : Array Value} {Q : Value → Shared → Prop} (hL : s.heap.IsTuple l items)
    (h : ∀ h', IsEnum h' (s.heap.objs.size + 1) s.heap.objs.size 0 .none → h'.IsTupleIter s.heap.objs.size l 0 → h'.objs.size = s.heap.objs.size + 2 →
      (∀ b o, s.heap.get? b = some o → h'.get? b = some o) → Q (.ref (s.heap.objs.size + 1)) { s with heap := h' }) :
    wpAny (model prog w) A (call (.type "enumerate") [.ref l]) Q E s := by
  refine callType_new F.called_enumerate (by decide) (F.typeCall_enumerate_1 _) (F.newCall_enumerate_1 _) (fun obj => F.args_object_init_2 obj _) F.entry_enumerate_new
    (meets_enumerate_newT l items) ⟨hL, ?_⟩
  have hz : (s.heap.push { cls := .type "tuple_iterator", data := .fields #[.ref l, .int 0 0] }).objs.size = s.heap.objs.size + 1 := Heap.size_push ..
  show _ ∧ _
  rw [hz]
  have he : IsEnum ((s.heap.push { cls := .type "tuple_iterator", data := .fields #[.ref l, .int 0 0] }).push
      { cls := .type "enumerate", data := .fields #[.none, .bool false, .ref s.heap.objs.size, rawInt 0, .none, .none] }) (s.heap.objs.size + 1) s.heap.objs.size 0 .none := by
    have := Heap.get?_push_size (s.heap.push { cls := .type "tuple_iterator", data := .fields #[.ref l, .int 0 0] })
      (o := { cls := .type "enumerate", data := .fields #[.none, .bool false, .ref s.heap.objs.size, rawInt 0, .none, .none] }) rfl
    rw [hz] at this; exact this
  exact ⟨⟨_, he, rfl⟩, h _ he ⟨_, Heap.get?_push_of_some _ (Heap.get?_push_size _ rfl), rfl, rfl⟩ (by rw [Heap.size_push, hz]) fun b o x => Heap.get?_push_of_some _ (Heap.get?_push_of_some _ x)⟩
/-- the tuple at a, each item in a new pair -/
def IteT (K : PySem.W.Frag) (a : Addr) : It :=
  ⟨fun i H => ∃ (xs : List V) (x : V), SqT K H a xs ∧ xs[i]? = some x, fun i H v H' => ∃ T x, v = .ref T ∧ H T = none ∧ H' = upd H T (.tup [.int (i : Nat), x]) ∧ ∀ xs, SqT K H a xs → xs[i]? = some x, fun i H => ∃ xs : List V, SqT K H a xs ∧ xs.length ≤ i⟩
theorem turn_enumT {P : Program} {w : World} {K : PySem.W.Frag} {elts : List Expr} {kk : Nat} {tpos : Pos} (a e it : Addr) :
    Turn P w K (.Tuple elts kk tpos) (IteT K a) [e, it] e (fun i h => (∃ old, IsEnum h e it ((i : Nat) : Int) old) ∧ h.IsTupleIter it a i ∧ e ≠ it) where
  mem := by simp
  obj := fun i h st b hb => by
    obtain ⟨⟨old, he⟩, ⟨o, ho, hc, hd⟩, _⟩ := st
    have e' : b = e ∨ b = it := by simpa using hb
    rcases e' with z | z
    · rw [z]; exact ⟨_, he, fun v q => nomatch q⟩
    · rw [z]; exact ⟨o, ho, fun v q => by rw [hd] at q; cases q⟩
  keep := fun i h h' st k => let ⟨⟨old, he⟩, hi, hne⟩ := st; ⟨⟨old, k e (by simp) _ he⟩, hi.at fun o q => k it (by simp) o q, hne⟩
  item := by
    intro X hP hw hK hc i pins s σ H E I hf st hg
    subst hP hw hK
    obtain ⟨⟨old, he⟩, hit, hne⟩ := st
    obtain ⟨xs, x, hq, hx⟩ := hg
    obtain ⟨its, rv, p, hz⟩ := I.tuple hq
    obtain ⟨u, hu, ru⟩ := rv.get hx
    have hel : e < s.heap.objs.size := Heap.lt_size he
    have hil : it < s.heap.objs.size := by obtain ⟨_, q, _⟩ := hit; exact Heap.lt_size q
    have hae : e ≠ a := fun z => by
      obtain ⟨o, ho, hcl, _⟩ := p
      rw [← z, he] at ho
      cases ho
      exact absurd hcl (show ¬(Value.type "enumerate" = Value.type "tuple") by decide)
    have hai : a ≠ it := fun z => by
      obtain ⟨o, ho, hcl, _⟩ := p
      obtain ⟨o2, ho2, hcl2, _⟩ := hit
      rw [z, ho2] at ho
      cases ho
      rw [hcl2] at hcl
      exact absurd hcl (by decide)
    have hi : i < its.length := (List.getElem?_eq_some_iff.mp hu).1
    refine wpAny_pyNext_enum_itemD (Draws.tup (A := X.A.in1) (I.ok.hd hc) it a hai its.toArray) he ⟨hit, p⟩ (by simpa using hi) hne (by simp only [List.mem_cons, List.not_mem_nil, or_false, not_or]; exact ⟨hne, hae⟩) fun y h' tk hy ho hs' hT hsz hk => ?_
    obtain rfl : u = y := by
      have h1 : its[i]? = some y := by simpa using hy
      rw [hu] at h1
      exact Option.some.inj h1
    refine ⟨_, rfl, wpAny_letOwnedTupleGo_enum (s := { s with heap := h', toks := tk + 1 }) ho fun h'' he' sb => ?_⟩
    have hT2 : h''.get? s.heap.objs.size = some { cls := .type "tuple", data := .seq #[.int i tk, u] } := (sb.2 _ (Nat.ne_of_gt hel)).trans hT
    have new : ObjOk X.prog X.w (upd H s.heap.objs.size (.tup [.int (i : Nat), x])) h'' s.heap.objs.size (.tup [.int (i : Nat), x]) :=
      ⟨by show 2 ≤ sizeLine; decide, [.int i tk, u], .cons ⟨_, rfl⟩ (.cons ru .nil), ⟨_, hT2, rfl, _, rfl⟩⟩
    have I1 : Inv X pins σ (upd H s.heap.objs.size (.tup [.int (i : Nat), x])) { s with heap := h'', toks := tk + 1 } :=
      I.turnedNew (ch := [e, it]) (fun b ob hb q => (sb.2 b (fun z => hb (by simp [z]))).trans (hk b ob (fun z => hb (by simp [z])) (fun z => hb (by simp [z])) q)) hf (Nat.le_refl _) new
    refine ⟨.ref s.heap.objs.size, _, I1, rfl, ⟨_, x, rfl, I.hok.fresh (Nat.le_refl _), rfl, fun ys hy => by rw [I.tuple_inj hy hq]; exact hx⟩, ⟨⟨u, ?_⟩, hs'.1.at fun o q => (sb.2 it (Ne.symm hne)).trans q, hne⟩, fun b hb => ?_⟩
    · have e1 : ((i + 1 : Nat) : Int) = (i : Int) + 1 := by omega
      rw [e1]; exact he'
    · have hb' : b < s.heap.objs.size := by
        have e' : b = e ∨ b = it := by simpa using hb
        rcases e' with z | z
        · rw [z]; exact hel
        · rw [z]; exact hil
      rw [upd_ne (Nat.ne_of_lt hb')]
      exact (hf b hb).1
  done := by
    intro X hP hw hK hc i pins s σ H E I hf st hg
    subst hP hw hK
    obtain ⟨⟨old, he⟩, hit, hne⟩ := st
    obtain ⟨xs, hq, hx⟩ := hg
    obtain ⟨its, rv, p, hz⟩ := I.tuple hq
    obtain ⟨f0, f1, f2, f3, f4, f5⟩ := hf it (by simp)
    have hl := rv.length
    have hT : s.TypeIs (.ref e) "enumerate" := ⟨_, he, rfl⟩
    unfold pyNext
    refine wpAny_bind (wpAny_attempt (wpAny_callSpecial?_slot (name := Str.ofString "__next__") hT F.slot_enumerate_next
      (wpAny_call_entry F.slot_enumerate_next hT F.entry_enumerate_next ?_ (F.args_enumerate_next_1 _))))
    show wpAny _ _ (field (.ref e) 2 >>= _) _ _ _
    refine wpAny_bind (wpAny_field he rfl (x := .ref it) rfl ?_)
    refine wpAny_bind (RZ.nextOf_tuple_end (A := X.A.in1) (I.ok.hd hc) hit p (by simp; omega) fun h' x he' hx' => ?_)
    obtain ⟨o, ho, hcl⟩ := hx'
    refine wpAny_bind (wpAny_isInstance (T := "StopIteration") (b := true) ⟨o, ho, hcl⟩ isSubtype_stop ?_)
    exact wpAny_pure ⟨rfl, I.turned (t' := s.toks) (fun b o hb q => he' b o hb q) f0 f1 f3 f4 f5⟩
  self := fun A i s Q E st h => let ⟨⟨_, he⟩, _⟩ := st; wpAny_pyIter_enum he h
def iEnumA (K : PySem.W.Frag) (ta : TA) : TI := fun σ H R => ta σ H fun vs H1 => ∃ a, vs = [.ref a] ∧ ((∃ xs, SqL K H1 a xs ∧ R (Ite K a) H1) ∨ ∃ xs, SqT K H1 a xs ∧ R (IteT K a) H1)
theorem pi_enumA (K : PySem.W.Frag) {X : Cx} (hKK : X.K = K) {e : Expr} {ta : TA} {p pos tpos : Pos} {elts : List Expr} {kk : Nat} (hg : Gl X "enumerate") (hm : X.mg "enumerate" = none) (ha : PA X [e] ta) (hs : starEach [e] X.env = [(false, eval e X.env)] := by rfl) :
    PI X (.Tuple elts kk tpos) (.Call (.Name "enumerate" p) [e] [] pos) (iEnumA K ta) := by
  subst hKK
  refine ⟨fun pins s σ H R I h => ?_⟩
  refine Call_ (ld_blt I hg hm boot_enumerate (PyProof.Rows.callWith_type1 (thn (ha.run pos pins s σ H _ I h) fun us s1 ⟨vs, H1, I1, r1, q1⟩ => ?_) hs rfl))
  obtain ⟨a, ex, q1⟩ := q1
  subst ex
  cases r1 with
  | cons r rr =>
    cases rr
    cases r
    have low : ∀ b, b ∈ [s1.heap.objs.size + 1, s1.heap.objs.size] → s1.heap.objs.size ≤ b := fun b hb => by
      have e' : b = s1.heap.objs.size + 1 ∨ b = s1.heap.objs.size := by simpa using hb
      rcases e' with z | z
      · rw [z]; exact Nat.le_add_right _ _
      · rw [z]; exact Nat.le_refl _
    rcases q1 with ⟨xs, hq, q⟩ | ⟨xs, hq, q⟩
    · obtain ⟨its, rv, p', hz⟩ := I1.list hq
      refine call_enumerate_list p'.isList fun h' he hit hsz hk => wpAny_pyIter_enum he ?_
      have I2 : Inv X pins σ H1 { s1 with heap := h' } := I1.kept (t' := s1.toks) hk
      exact ⟨s1.heap.objs.size + 1, [s1.heap.objs.size + 1, s1.heap.objs.size], _, _, H1, rfl, I2, turn_enum a (s1.heap.objs.size + 1) s1.heap.objs.size, ⟨⟨.none, he⟩, hit, Nat.succ_ne_self _⟩, fun b hb => I1.fpOk (low b hb) (I1.hok.fresh (low b hb)), q⟩
    · obtain ⟨its, rv, p', hz⟩ := I1.tuple hq
      refine call_enumerate_tup p' fun h' he hit hsz hk => wpAny_pyIter_enum he ?_
      have I2 : Inv X pins σ H1 { s1 with heap := h' } := I1.kept (t' := s1.toks) hk
      exact ⟨s1.heap.objs.size + 1, [s1.heap.objs.size + 1, s1.heap.objs.size], _, _, H1, rfl, I2, turn_enumT a (s1.heap.objs.size + 1) s1.heap.objs.size, ⟨⟨.none, he⟩, hit, Nat.succ_ne_self _⟩, fun b hb => I1.fpOk (low b hb) (I1.hok.fresh (low b hb)), q⟩
theorem good_enumT {K : PySem.W.Frag} {d1 : List D} {a : Addr} : Good K (IteT K a) (enumD 0 d1) [.tup d1] [.ref a] := fun S H s h => by
  simp only [Reps, Rep] at h
  obtain ⟨v, r, e1, ⟨p, xs, ob, e2, h1, h0, h2⟩, e3⟩ := h
  obtain ⟨rfl, rfl⟩ := List.cons.inj e1
  obtain rfl := V.ref.inj e2
  have q1 : SqT K H a xs := tupQ s h1
  refine ⟨fun i hi => ⟨xs, q1, ?_⟩, fun i d hd => ?_⟩
  · rw [enumD_len] at hi
    rw [h2.len]
    omega
  · rw [enumD_get] at hd
    cases f1 : d1[i]? with
    | none =>
      rw [f1] at hd
      simp at hd
    | some x =>
      rw [f1] at hd
      simp only [Option.map_some, Option.some.injEq, Nat.zero_add] at hd
      subst hd
      obtain ⟨x', k1, k2⟩ := h2.get f1
      refine ⟨⟨xs, x', q1, k1⟩, fun z H' ⟨T, w1, ez, hT, eH, g1⟩ => .inr ⟨T, .tup [.int (i : Nat), w1], hT, eH, ?_⟩⟩
      have e1 := g1 xs q1
      rw [k1] at e1
      cases e1
      have sm : Same S (upd S T (.tup [.int (i : Nat), x'])) := Same.new (s.free hT)
      simp only [Rep, Reps]
      exact ⟨T, _, ez, upd_same, _, _, rfl, rfl, x', _, rfl, Rep.mono sm _ _ k2, rfl⟩
section
variable {c : Ct} {e : TX.Env} {Q : O → TX.Env → Prop}
theorem wi_enumA {ta : TA} {P : List D → TX.Env → Prop} (h : WA c ta e fun os e1 => ∃ o1, os = [o1] ∧ nobx o1 = true ∧ ∃ d1, (toD o1 = .lst d1 ∨ toD o1 = .tup d1) ∧ P (enumD 0 d1) e1) : WI c (iEnumA c.K ta) e P := fun S H ts vs σ r R' k =>
  h S H ts vs σ r _ fun os us e1 S1 H1 r1 l ⟨o1, e2, n1, d1, hd, q⟩ => by
    subst e2
    obtain ⟨u, rfl⟩ := vals_one l
    obtain ⟨S2, s2, r2⟩ := R.freeze r1 n1
    have t1 := r2.top
    rcases hd with hd | hd
    · rw [hd] at t1 r2
      simp only [Rep] at t1
      obtain ⟨p, xs, rfl, h1, h2⟩ := t1
      exact ⟨p, rfl, .inl ⟨xs, .of (r2.sub _ _ h1), k _ _ [.lst d1] [.ref p] e1 S2 H1 r2 rfl good_enum q⟩⟩
    · rw [hd] at t1 r2
      simp only [Rep] at t1
      obtain ⟨p, xs, ob, rfl, h1, h0, h2⟩ := t1
      exact ⟨p, rfl, .inr ⟨xs, tupQ r2.sub h1, k _ _ [.tup d1] [.ref p] e1 S2 H1 r2 rfl good_enumT q⟩⟩
end
end TX
end

section
/-! sorted pairs, the truth of a list, targets in targets, xs[i] += e. -/
namespace TX
open PySem PySem.Spec PyProof.Rows L2
/-! ### sorted(pairs) -/
def rSortedPF (K : PySem.W.Frag) : List V → Hp → VK → Prop := fun vs H Q => ∃ (a : Addr) (xs : List V) (k : V → Int × Int), vs = [V.ref a] ∧ SqL K H a xs ∧ (∀ x ∈ xs, ∃ t, x = V.ref t ∧ SqT K H t [.int (k x).1, .int (k x).2]) ∧
  ∀ ys p, SrtO.Srtd (ltP k) ys → ys.Perm xs → H p = none → Q (.ref p) (upd H p (.lst ys))
theorem cr_sortedPF {X : Cx} : CallR X (.builtin "sorted") (rSortedPF X.K) := by
  intro pins s σ H vs us Q I r h
  obtain ⟨a, xs, k, rfl, hs, hx, q⟩ := h
  obtain ⟨its, rv, hl, hz⟩ := I.list hs
  obtain ⟨u, rfl, ru⟩ := vals1 r
  obtain rfl : u = Value.ref a := ru
  obtain ⟨e1, e2⟩ := refs_back rv fun x m => by
    obtain ⟨t, e, _⟩ := hx x m
    exact ⟨t, e⟩
  refine SrtO.sorted_pairsO (k := fun u => k (backV u)) hl.isList (by rw [← rv.length]; exact hz) (fun v hv => ?_) fun h' d out h1 h2 kp hd hn => ?_
  · obtain ⟨t, rfl⟩ := e2 v hv
    have hm : V.ref t ∈ xs := by rw [e1]; exact List.mem_map.mpr ⟨_, hv, rfl⟩
    obtain ⟨t', e, ht⟩ := hx _ hm
    cases e
    obtain ⟨its2, r2, ⟨o, ho, hc, n, hd⟩, _⟩ := I.tuple ht
    obtain ⟨u1, u2, rfl, ri, rj⟩ := vals2 r2
    obtain ⟨t1, rfl⟩ := ri
    obtain ⟨t2, rfl⟩ := rj
    exact ⟨t, o, t1, t2, n, rfl, ho, hc, hd⟩
  · have h3 : ∀ u ∈ out, ∃ a, u = Value.ref a := fun u hu => e2 u (h2.perm.mem_iff.mp hu)
    obtain ⟨n, hn⟩ := hn
    have hb : (out.map backV).Perm xs := by
      rw [e1]
      exact h2.perm.map backV
    refine ⟨.ref d, upd H d (.lst (out.map backV)), I.laid (t' := s.toks) kp hd ⟨?_, out, n, vals_back h3, hn⟩, rfl, q _ d (SrtO.srtd_map h1) hb (I.hok.fresh hd)⟩
    rw [hb.length_eq]
    exact hz
theorem sortedPK (K : PySem.W.Frag) {X : Cx} (h : X.K = K) : CallR X (.builtin "sorted") (rSortedPF K) := by subst h; exact cr_sortedPF
def pairI (p : Int × Int) : D := .tup [.int p.1, .int p.2]
def keyOf (S : Hp) : V → Int × Int
  | .ref t => match S t with
    | some (.frz _ (.tup [.int i, .int j])) => (i, j)
    | _ => (0, 0)
  | _ => (0, 0)
theorem keyOf_rep {K : PySem.W.Frag} {S : Hp} {p : Int × Int} {v : V} (h : Rep K S (pairI p) v) : keyOf S v = p ∧ ∃ t o, v = .ref t ∧ S t = some (.frz o (.tup [.int p.1, .int p.2])) := by
  simp only [pairI, Rep, Reps] at h
  obtain ⟨t, vs, o, rfl, h1, h0, v1, r1, rfl, rfl, v2, r2, rfl, rfl, rfl⟩ := h
  refine ⟨?_, t, o, rfl, h1⟩
  simp only [keyOf, h1]
theorem reps_pairsK {K : PySem.W.Frag} {S : Hp} : ∀ {ps : List (Int × Int)} {xs : List V}, Reps K S (ps.map pairI) xs → xs.map (keyOf S) = ps ∧ ∀ x ∈ xs, Rep K S (pairI (keyOf S x)) x
  | [], xs, h => by
    simp only [List.map_nil, Reps] at h
    subst h
    exact ⟨rfl, fun x hx => by cases hx⟩
  | p :: ps, xs, h => by
    simp only [List.map_cons, Reps] at h
    obtain ⟨v, r, rfl, h1, h2⟩ := h
    obtain ⟨k1, k2⟩ := reps_pairsK h2
    have e := (keyOf_rep h1).1
    refine ⟨by rw [List.map_cons, k1, e], fun x hx => ?_⟩
    rcases List.mem_cons.mp hx with rfl | hx
    · rw [e]; exact h1
    · exact k2 x hx
theorem pairs_reps {K : PySem.W.Frag} {S : Hp} : ∀ {xs : List V}, (∀ x ∈ xs, Rep K S (pairI (keyOf S x)) x) → Reps K S ((xs.map (keyOf S)).map pairI) xs
  | [], _ => by simp only [List.map_nil, Reps]
  | x :: xs, h => by
    simp only [List.map_cons, Reps]
    exact ⟨x, xs, rfl, h x List.mem_cons_self, pairs_reps fun y hy => h y (List.mem_cons_of_mem _ hy)⟩
section
variable {c : Ct} {e : TX.Env} {Q : O → TX.Env → Prop} {o1 : O}
theorem wc_sortedP {ps : List (Int × Int)} (n1 : nobx o1 = true) (h : toD o1 = .lst (ps.map pairI)) (q : ∀ qs : List (Int × Int), qs.Perm ps → qs.Pairwise (fun a b => SrtO.lexB b a = false) → Q (.lst ((qs.map pairI).map O.sh)) e) : WC c (rSortedPF c.K) [o1] e Q := fun S H ts vs us σ r l Q' k => by
  obtain ⟨x, rfl⟩ := vals_one l
  obtain ⟨S', s, t1, r1⟩ := R.freeze1 r n1
  rw [h] at t1
  simp only [Rep] at t1
  obtain ⟨p, xs, rfl, h1, h2⟩ := t1
  obtain ⟨k1, k2⟩ := reps_pairsK h2
  refine ⟨p, xs, keyOf S', rfl, .of (r1.sub _ _ h1), fun y hy => ?_, fun ys z sr pm hz => ?_⟩
  · obtain ⟨e1, t, o, rfl, e2⟩ := keyOf_rep (k2 y hy)
    exact ⟨t, rfl, tupQ r1.sub e2⟩
  · have k3 : ∀ y ∈ ys, Rep c.K S' (pairI (keyOf S' y)) y := fun y hy => k2 y (pm.mem_iff.mp hy)
    have rr := pairs_reps k3
    refine k _ _ _ _ _ ((r1.pushes rr).list (by rw [rr.len]; exact (List.length_map _).symm) hz) (q (ys.map (keyOf S')) ?_ ?_)
    · rw [← k1]
      exact pm.map _
    · exact List.pairwise_map.mpr sr
/-! ### the truth of a list -/
def tTruth (K : PySem.W.Frag) (te : TE) : TT := fun σ H Q => te σ H fun x H' => ∃ k, TruV K x H' k ∧ Q k H'
theorem pt_tru (K : PySem.W.Frag) {X : Cx} (hK : X.K = K) {a : Expr} {ta : TE} (ha : PE X a ta) (he : ∀ whole, isTrue a X.env whole = (do let v ← whole; standAt a.pos; holding [v] (truthy v))) : PT X a (tTruth K ta) := by
  subst hK
  exact pt_truth ha he
theorem wt_tru {te : TE} {B : Bool → TX.Env → Prop} (h : WE c te e fun o e1 => nobx o = true ∧ ∃ ds, (toD o = .lst ds ∨ toD o = .tup ds) ∧ B (!ds.isEmpty) e1) : WT c (tTruth c.K te) e B := fun S H ts vs σ rr Q' k =>
  h S H ts vs σ rr _ fun o v e1 S1 H1 r1 ⟨n1, ds, hd, q⟩ => by
    obtain ⟨S2, s2, t1, r2⟩ := R.freeze1 r1 n1
    have em : ∀ {xs : List V}, Reps c.K S2 ds xs → (!xs.isEmpty) = !ds.isEmpty := fun {xs} z => by
      have l := z.len
      cases xs <;> cases ds <;> simp at l ⊢
    rcases hd with hd | hd
    · rw [hd] at t1
      simp only [Rep] at t1
      obtain ⟨p, xs, rfl, h1, h2⟩ := t1
      exact ⟨!ds.isEmpty, .inl ⟨xs, .of (r2.sub _ _ h1), (em h2).symm⟩, k _ _ _ _ r2 q⟩
    · rw [hd] at t1
      simp only [Rep] at t1
      obtain ⟨p, xs, ob, rfl, h1, h0, h2⟩ := t1
      exact ⟨!ds.isEmpty, .inr (.inl ⟨xs, tupQ r2.sub h1, (em h2).symm⟩), k _ _ _ _ r2 q⟩
/-! ### for i, (j, ..) in .. -/
theorem tup_open {S H : Hp} {ts : List O} {vs : List V} {σ : L2.St} {o : O} {v : V} {ds : List D} (rr : R c S H (o :: ts) (v :: vs) e σ) (no : nobx o = true) (hd : toD o = .tup ds ∨ toD o = .raw ds) : ∃ S2 p xs, v = .ref p ∧ SqT c.K H p xs ∧ xs.length = ds.length ∧ R c S2 H (ds.map O.sh ++ ts) (xs ++ vs) e σ := by
  obtain ⟨S2, s2, t, r2⟩ := R.freeze1 rr no
  rcases hd with hd | hd
  · rw [hd] at t
    simp only [Rep] at t
    obtain ⟨p, xs, ob, rfl, h2, h0, h3⟩ := t
    exact ⟨S2, p, xs, rfl, tupQ r2.sub h2, h3.len, r2.pushes h3⟩
  · rw [hd] at t
    simp only [Rep] at t
    obtain ⟨p, xs, rfl, h2, h3⟩ := t
    exact ⟨S2, p, xs, rfl, .of (r2.sub _ _ h2), h3.len, r2.pushes h3⟩
theorem wg_nest {i n : Nat} {is : List Nat} {o : O} {d : D} {ds : List D} {G : TX.Env → Prop} (no : nobx o = true) (hd : toD o = .tup [d, .tup ds] ∨ toD o = .raw [d, .tup ds]) (h1 : ds.length = is.length) (hn : is.length = n) (hi : i ∉ c.fx) (hf : ∀ j ∈ is, j ∉ c.fx) (h : G ⟨setAll (e.sl.set i (some (.sh d))) is (ds.map O.sh), e.g⟩) :
    WG c (gTup c.K 2 (gCons (gName i) (gCons (gTup c.K n (gNames is)) gNil))) o e G := fun S H ts vs v σ rr Q' k => by
  obtain ⟨S2, p, xs, rfl, h2, h3, r2⟩ := tup_open rr no hd
  refine ⟨p, xs, rfl, h2, h3, ?_⟩
  match xs, h3 with
  | [u, w], _ =>
    refine ⟨u, [w], rfl, ?_⟩
    have r3 : R c S2 H (.sh (.tup ds) :: ts) (w :: vs) ⟨e.sl.set i (some (.sh d)), e.g⟩ _ := R.put (i := i) (show R c S2 H (O.sh d :: .sh (.tup ds) :: ts) (u :: w :: vs) e σ from r2) hi
    obtain ⟨S3, p2, ys, rfl, h4, h5, r4⟩ := tup_open r3 rfl (.inl rfl)
    refine ⟨.ref p2, [], rfl, p2, ys, rfl, h4, by omega, ?_⟩
    exact names_run [] r4 (by rw [h5, List.length_map]) (by rw [List.length_map, h1]) (fun _ _ => .inr rfl) hf fun σ' r5 _ => ⟨rfl, k _ _ _ _ r5 h⟩
/-! ### xs[k] += n -/
def rIxN : V → V → Hp → VK → Prop := fun x y H Q => ∃ (p : Addr) (xs : List V) (j : Nat) (v : V), x = .ref p ∧ y = .int (j : Int) ∧ H p = some (.lst xs) ∧ xs.length ≤ 100000 ∧ xs[j]? = some v ∧ Q v H
theorem get_listA {X : Cx} : PGet X rIxN := by
  intro pins s σ H x y v u Q I rx ry h
  obtain ⟨p, xs, j, z, rfl, rfl, hp, hz, hx, q⟩ := h
  cases rx
  obtain ⟨t, rfl⟩ := ry
  obtain ⟨its, r, pl, _⟩ := I.list (.of hp)
  obtain ⟨w, ew, rw'⟩ := r.get hx
  have hj : j < xs.length := (List.getElem?_eq_some_iff.mp hx).1
  exact wpAny_getItem_list pl.isList (by omega) (by omega) (by rw [Int.toNat_natCast]; simpa using ew) ⟨z, H, I, rw', q⟩
theorem ws_augS {i : Nat} {ti te : TE} {P : Post} {ls0 : List O} (h0 : e.sl[i]? = some (some (.lst ls0)))
    (h : WE c ti e fun o e1 => ∃ (j : Nat) (ds : List D) (a : Int), o = .sh (.int (j : Int)) ∧ e1.sl[i]? = some (some (.lst (ds.map O.sh))) ∧ ds.length ≤ 100000 ∧ ds[j]? = some (.int a) ∧
      WE c te e1 fun o2 e2 => ∃ b : Int, o2 = .sh (.int b) ∧ e2.sl[i]? = some (some (.lst (ds.map O.sh))) ∧ P.nx ⟨e2.sl.set i (some (.lst ((ds.set j (.int (a + b))).map O.sh))), e2.g⟩) :
    WS c (tAugS (tVar i) ti te rIxN (ipI fun i j => i + j) rSetL) e P := fun S H ts vs σ rr D d1 d2 d3 d4 => by
  obtain ⟨v, h1, r1⟩ := rr.out h0
  refine ⟨v, h1, h S H ts vs σ rr _ fun o y e1 S1 H1 r2 ⟨j, ds, a, e2, e3, e4, e5, q⟩ => ?_⟩
  subst e2
  have t : y = V.int (j : Int) := r2.top
  subst t
  obtain ⟨v', k1, r4⟩ := r2.pop.out e3
  rw [h1] at k1
  obtain rfl := Option.some.inj (Option.some.inj k1)
  obtain ⟨p, xs, rfl, k2, k3⟩ := r4.ref_top
  have rx := r4.elts k2
  obtain ⟨z, z1, z2⟩ := rx.get e5
  have jl : j < ds.length := (List.getElem?_eq_some_iff.mp e5).1
  have ez : z = V.int a := z2
  subst ez
  refine ⟨p, xs, j, _, rfl, rfl, k2, by rw [rx.len]; exact e4, z1, ?_⟩
  refine q S1 H1 ts vs σ r2.pop _ fun o2 y2 e2 S2 H2 r5 ⟨b, f1, f2, f3⟩ => ?_
  subst f1
  have t2 : y2 = V.int b := r5.top
  subst t2
  refine ⟨a, b, rfl, rfl, ?_⟩
  obtain ⟨v2, k4, r6⟩ := (R.push (d := .int (a + b)) (v := .int (a + b)) r5.pop rfl).out f2
  rw [h1] at k4
  obtain rfl := Option.some.inj (Option.some.inj k4)
  obtain ⟨p2, xs2, ep, k5, k6⟩ := r6.ref_top
  obtain rfl := V.ref.inj ep
  have r7 := R.setAt (k := j) r6 k5
  refine ⟨p, xs2, (j : Int), j, rfl, rfl, k5, by rw [k6, List.length_map]; unfold ixN; rw [if_pos (by omega), if_pos (by omega)]; simp, d1 _ _ _ _ (r7.inn h1) ?_⟩
  simp only [List.set_set]
  rw [List.map_set] at f3
  exact f3
end
end TX
end

section
/-! sorted(t), t a tuple of ints. -/
namespace SrtO
open PySem PySem.W PySem.Calls PyProof.Rows L2
section
variable {prog : Program} {w : World} {A : Around} {E : Value → Shared → Prop} {s : Shared}
theorem collect_tupS {l : Addr} {vs : List Value} {Q : List Value → Shared → Prop} (hl : IsTup s.heap l vs.toArray)
    (h : Q vs { s with heap := (s.heap.push (seqObj "list" #[] 0)).update s.heap.objs.size (Obj.mapSeq (· ++ vs.toArray)) }) (hsz : vs.length ≤ sizeLine) :
    wpAny (model prog w) A (collect (.ref l)) Q E s := by
  obtain ⟨o, ho, hc, n, hd⟩ := id hl
  have hne : s.heap.objs.size ≠ l := Nat.ne_of_gt (Heap.lt_size ho)
  unfold collect
  refine wpAny_bind (wpAny_runValue (codeAny_builtin entry_proto_collect' ?_))
  show wpAny _ _ (do again (.builtin "list.__iadd__" ⟨[← newList [], .ref l], []⟩)) _ _ s
  refine wpAny_bind (wpAny_newList (wpAny_pure ⟨Code.quiet_builtin _ (by decide +kernel), codeAny_builtin entry_list_iadd' ?_⟩))
  show wpAny _ _ (Builtin.List.listExtendWith (.ref s.heap.objs.size) (.ref l) (.ref s.heap.objs.size)) _ _ { s with heap := s.heap.push (seqObj "list" #[] 0) }
  unfold Builtin.List.listExtendWith
  have ho' : (s.heap.push (seqObj "list" #[] 0)).get? l = some o := Heap.get?_push_of_some _ ho
  refine wpAny_bind (wpAny_typeOf (T := "tuple") ⟨o, ho', hc⟩ ?_)
  have ht : (Value.type "tuple" == Value.type "tuple") = true := by rfl
  rw [if_pos (by rw [ht]; simp)]
  refine wpAny_bind (listItems_at ho' hd ?_)
  refine wpAny_bind (listItems_at (xs := #[]) (n := 0) (Heap.get?_push_size _ rfl) rfl ?_)
  rw [if_neg (by simp)]
  refine wpAny_bind (listUpdate_at (xs := #[]) (n := 0) (Heap.get?_push_size _ rfl) rfl ?_ (Nat.zero_le _) (by show (#[] ++ vs.toArray).size ≤ sizeLine + 1; simp only [Array.size_append, List.size_toArray, List.length_nil]; omega))
  refine wpAny_pure ?_
  show wpAny (model prog w) A (do
      let o ← load s.heap.objs.size
      match o.data with
      | .seq xs _ => pure xs.toList
      | _ => unsupported "internal:collect") Q E { s with heap := (s.heap.push (seqObj "list" #[] 0)).update s.heap.objs.size (Obj.mapSeq (· ++ vs.toArray)) }
  refine wpAny_bind (wpAny_load (get?_update_seq (Heap.get?_push_size _ rfl) _) ?_)
  show wpAny _ _ (pure ((#[] : Array Value) ++ vs.toArray).toList) Q E _
  rw [show ((#[] : Array Value) ++ vs.toArray).toList = vs by simp]
  exact wpAny_pure h
theorem sorted_ordT {l : Addr} {vs : List Value} {ltv : Value → Value → Bool} {Q : Value → Shared → Prop} (O : Swo ltv) (hl : IsTup s.heap l vs.toArray) (hz : vs.length ≤ sizeLine)
    (hS : 2 ≤ vs.length → ∀ (h₁ : Heap) (a : Addr), SortableO prog w A.in1.in1 { s with heap := h₁ } a vs ltv)
    (h : ∀ out : List Value, Srtd ltv out → Stb ltv out vs → Q (.ref (s.heap.objs.size + 1)) { s with heap := sortedAll s.heap vs out.toArray }) :
    wpAny (model prog w) A (call (.builtin "sorted") [.ref l]) Q E s := by
  refine Calls.call_function_entry kind_sorted plain_sorted entry_sorted (args_sorted1 _) ?_
  unfold Builtin.«sorted»
  refine wpAny_bind (m := checkCount "sorted" 1 1 _) (wpAny_pure ?_)
  refine wpAny_bind (collect_tupS hl ?_ hz)
  refine wpAny_bind (wpAny_newList ?_ hz)
  have hsz : ((s.heap.push (seqObj "list" #[] 0)).update s.heap.objs.size (Obj.mapSeq (· ++ vs.toArray))).objs.size = s.heap.objs.size + 1 := by
    rw [Heap.size_update, size_push']
  have hoL : (((s.heap.push (seqObj "list" #[] 0)).update s.heap.objs.size (Obj.mapSeq (· ++ vs.toArray))).push (seqObj "list" vs.toArray 0)).get? (s.heap.objs.size + 1) = some (seqObj "list" vs.toArray 0) := by
    rw [← hsz]; exact Heap.get?_push_size _ rfl
  show wpAny _ _ _ _ _ { s with heap := ((s.heap.push (seqObj "list" #[] 0)).update s.heap.objs.size (Obj.mapSeq (· ++ vs.toArray))).push (seqObj "list" vs.toArray 0) }
  rw [hsz]
  refine wpAny_bind (wpAny_holding (wpAny_call_entry slot_list_sort ⟨_, hoL, rfl⟩ entry_list_sort (list_sort_ord O hoL hz (fun h2 => hS h2 _ _) fun out hs hb => ⟨_, rfl, ?_⟩) (args_list_sort _)))
  exact wpAny_pure ⟨_, rfl, h out hs hb⟩
end
end SrtO
namespace TX
open PySem PySem.Spec PyProof.Rows L2
/-- sorted of a list or a tuple of ints -/
def rSortedA (K : PySem.W.Frag) : List V → Hp → VK → Prop := fun vs H Q => ∃ (a : Addr) (ns : List Int), vs = [V.ref a] ∧ (SqL K H a (ns.map V.int) ∨ SqT K H a (ns.map V.int)) ∧
  ∀ (ns' : List Int) (p : Addr), ns'.Perm ns → ns'.Pairwise (· ≤ ·) → H p = none → Q (.ref p) (upd H p (.lst (ns'.map V.int)))
theorem cr_sortedA {X : Cx} : CallR X (.builtin "sorted") (rSortedA X.K) := by
  intro pins s σ H vs us Q I r h
  obtain ⟨a, ns, rfl, hs, q⟩ := h
  rcases hs with hs | hs
  · exact cr_sortedI pins s σ H _ us Q I r ⟨a, ns, rfl, hs, q⟩
  obtain ⟨its, rv, hl, hz⟩ := I.tuple hs
  rw [Vals.ref1 r]
  have hi := rv.ints
  refine SrtO.sorted_ordT SrtO.swo_int hl (by rw [← rv.length]; exact hz) (fun h2 h₁ a' => SrtO.ints_sortable hi h2) fun out h1 h2 => ?_
  obtain ⟨k1, k2, k3⟩ := SrtO.ints_out hi h1 h2
  obtain ⟨ep, he'⟩ := PyProof.Rows.sortedAll_at s.heap its out.toArray
  have hlen : ((out.map SrtO.iv).map V.int).length ≤ sizeLine := by
    rw [List.length_map, k2.length_eq]
    rw [List.length_map] at hz
    exact hz
  exact ⟨.ref _, upd H (s.heap.objs.size + 1) (.lst ((out.map SrtO.iv).map V.int)), I.laid (t' := s.toks) (fun _ _ => PyProof.Rows.sortedAll_old) (Nat.le_succ _) ⟨hlen, out, ep, vals_of_ints k1, he'⟩, rfl, q _ _ k2 k3 (I.hok.fresh (Nat.le_succ _))⟩
theorem sortedAK (K : PySem.W.Frag) {X : Cx} (h : X.K = K) : CallR X (.builtin "sorted") (rSortedA K) := by subst h; exact cr_sortedA
section
variable {c : Ct} {e : TX.Env} {Q : O → TX.Env → Prop} {o1 : O}
theorem wc_sortedA {ns : List Int} (n1 : nobx o1 = true) (h : toD o1 = .lst (ns.map D.int) ∨ toD o1 = .tup (ns.map D.int)) (q : ∀ ns' : List Int, ns'.Perm ns → ns'.Pairwise (· ≤ ·) → Q (.lst ((ns'.map D.int).map O.sh)) e) : WC c (rSortedA c.K) [o1] e Q := fun S H ts vs us σ r l Q' k => by
  obtain ⟨x, rfl⟩ := vals_one l
  obtain ⟨S', s, t1, r1⟩ := R.freeze1 r n1
  have fin : ∀ (ns' : List Int) (z : Addr), ns'.Perm ns → ns'.Pairwise (· ≤ ·) → H z = none → Q' (.ref z) (upd H z (.lst (ns'.map V.int))) := fun ns' z pm pw hz => by
    have rr := reps_ns (K := c.K) (S := S') ns'
    exact k _ _ _ _ _ ((r1.pushes rr).list (by rw [rr.len]; exact (List.length_map _).symm) hz) (q ns' pm pw)
  rcases h with h | h
  · rw [h] at t1
    simp only [Rep] at t1
    obtain ⟨p, xs, rfl, h1, h2⟩ := t1
    exact ⟨p, ns, rfl, .inl (.of (by rw [← reps_int h2]; exact r1.sub _ _ h1)), fin⟩
  · rw [h] at t1
    simp only [Rep] at t1
    obtain ⟨p, xs, ob, rfl, h1, h0, h2⟩ := t1
    refine ⟨p, ns, rfl, .inr ?_, fin⟩
    rw [← reps_int h2]
    exact tupQ r1.sub h1
end
/-! ### what equals itself -/
mutual
theorem eqv_same : ∀ d : D, PyData.eqv (toPy d) (toPy d) = true
  | .non => rfl
  | .bl b => by simp [toPy, PyData.eqv]
  | .int i => by simp [toPy, PyData.eqv]
  | .str s => by simp [toPy, PyData.eqv]
  | .lst ds => by
    simp only [toPy, PyData.eqv]
    exact eqvs_same ds
  | .tup ds => by
    simp only [toPy, PyData.eqv]
    exact eqvs_same ds
  | .raw ds => by
    simp only [toPy, PyData.eqv]
    exact eqvs_same ds
  | .scr _ => rfl
  | .set _ => rfl
  | .dct _ _ => rfl
theorem eqvs_same : ∀ ds : List D, PyData.eqvAll (toPys ds) (toPys ds) = true
  | [] => rfl
  | d :: ds => by
    simp only [toPys, PyData.eqvAll, Bool.and_eq_true]
    exact ⟨eqv_same d, eqvs_same ds⟩
end
section
variable {c : Ct} {e : TX.Env} {Q : O → TX.Env → Prop} {o1 o2 : O}
theorem wr_neSame {n : Nat} {d : D} (n1 : nobx o1 = true) (n2 : nobx o2 = true) (h1 : toD o1 = d) (h2 : toD o2 = d) (f : flatN n d = true) (hn : n ≤ 60) (q : Q (.sh (.bl false)) e) : WR c (rNeD c.K) o1 o2 e Q :=
  wr_neD n1 n2 (by rw [h1]; exact flat_okD f hn) (by rw [h2]; exact flat_okD f hn) (by
    rw [h1, h2, show D.eqv d d = true from eqv_same d]
    exact q)
end
end TX
end

section
/-! Runs as functions: what a piece of a body does to the slots, and that it does it. -/
namespace TX
open PySem PySem.Spec PyProof.Rows L2
abbrev SlR := Sl
def Rs.bind {σ α β : Type} (r : Rs σ α) (k : α → σ → Rs σ β) : Rs σ β := match r with
  | .ok a s => k a s
  | .ex x s => .ex x s
  | .bad => .bad
@[simp] theorem Rs.bind_ok {σ α β : Type} (a : α) (s : σ) (k : α → σ → Rs σ β) : (Rs.ok a s).bind k = k a s := rfl
@[simp] theorem Rs.bind_ex {σ α β : Type} (x : Xn) (s : σ) (k : α → σ → Rs σ β) : (Rs.ex x s).bind k = .ex x s := rfl
@[simp] theorem Rs.bind_bad {σ α β : Type} (k : α → σ → Rs σ β) : (Rs.bad : Rs σ α).bind k = .bad := rfl
theorem holds_bind {σ α β : Type} {r : Rs σ α} {k : α → σ → Rs σ β} {Q : β → σ → Prop} (h : (r.bind k).holds Q) : r.holds fun a s => (k a s).holds Q := by
  cases r with
  | ok a s => exact h
  | ex x s => exact h
  | bad => exact h
abbrev FE := Sl → Rs Sl O
abbrev FA := Sl → Rs Sl (List O)
abbrev FR := Sl → Rs Sl (List Ar)
abbrev FT := Sl → Rs Sl Bool
abbrev FP := Sl → Rs Sl (Option Int)
abbrev FG := O → Sl → Rs Sl Unit
abbrev FGs := List D → Sl → Rs Sl Unit
abbrev FI := Sl → Rs Sl (List D)
inductive Fl where
  | nx | rt (o : O) | bk | ct
abbrev FS := Sl → Rs Sl Fl
def ofO {α : Type} : Option α → Sl → Rs Sl α
  | some o, s => .ok o s
  | none, _ => .bad
@[simp] theorem ofO_some {α : Type} (o : α) (s : Sl) : ofO (some o) s = .ok o s := rfl
@[simp] theorem ofO_none {α : Type} (s : Sl) : ofO (none : Option α) s = .bad := rfl
def Post.fl (P : Post) (g : Nat) : Fl → Sl → Prop
  | .nx, s => P.nx ⟨s, g⟩
  | .rt o, s => P.rt o ⟨s, g⟩
  | .bk, s => P.bk ⟨s, g⟩
  | .ct, s => P.ct ⟨s, g⟩
section
variable (K : PySem.W.Frag) (fx : List Nat)
def SE (te : TE) (f : FE) : Prop := ∀ c : Ct, c.K = K → c.fx = fx → ∀ (sl : Sl) (g : Nat) (Q : O → TX.Env → Prop), ((f sl).holds fun o s => Q o ⟨s, g⟩) → WE c te ⟨sl, g⟩ Q
def SB (ta : TA) (f : FA) : Prop := ∀ c : Ct, c.K = K → c.fx = fx → ∀ (sl : Sl) (g : Nat) (Q : List O → TX.Env → Prop), ((f sl).holds fun o s => Q o ⟨s, g⟩) → WA c ta ⟨sl, g⟩ Q
def SR (ta : TA) (f : FR) : Prop := ∀ c : Ct, c.K = K → c.fx = fx → ∀ (sl : Sl) (g : Nat) (Q : List Ar → TX.Env → Prop), ((f sl).holds fun o s => Q o ⟨s, g⟩) → WAL c ta ⟨sl, g⟩ Q
def ST (tt : TT) (f : FT) : Prop := ∀ c : Ct, c.K = K → c.fx = fx → ∀ (sl : Sl) (g : Nat) (Q : Bool → TX.Env → Prop), ((f sl).holds fun o s => Q o ⟨s, g⟩) → WT c tt ⟨sl, g⟩ Q
def SP (to : TO) (f : FP) : Prop := ∀ c : Ct, c.K = K → c.fx = fx → ∀ (sl : Sl) (g : Nat) (Q : Option Int → TX.Env → Prop), ((f sl).holds fun o s => Q o ⟨s, g⟩) → WO c to ⟨sl, g⟩ Q
def SG (tg : TG) (f : FG) : Prop := ∀ c : Ct, c.K = K → c.fx = fx → ∀ (o : O) (sl : Sl) (g : Nat) (Q : TX.Env → Prop), ((f o sl).holds fun _ s => Q ⟨s, g⟩) → WG c tg o ⟨sl, g⟩ Q
def SGW (own : List Nat) (tg : TG) (f : FG) : Prop := ∀ c : Ct, c.K = K → c.fx = fx → ∀ (o : O) (sl : Sl) (g : Nat) (Q : TX.Env → Prop), ((f o sl).holds fun _ s => Q ⟨s, g⟩) → WGW c own tg o ⟨sl, g⟩ Q
def SI (wi : TI) (f : FI) : Prop := ∀ c : Ct, c.K = K → c.fx = fx → ∀ (sl : Sl) (g : Nat) (Q : List D → TX.Env → Prop), ((f sl).holds fun o s => Q o ⟨s, g⟩) → WI c wi ⟨sl, g⟩ Q
def SS (t : TS) (f : FS) : Prop := ∀ c : Ct, c.K = K → c.fx = fx → ∀ (sl : Sl) (g : Nat) (P : Post), ((f sl).holds fun fl s => P.fl g fl s) → WS c t ⟨sl, g⟩ P
def SO (r : R2) (op : O → O → Option O) : Prop := ∀ c : Ct, c.K = K → ∀ (o1 o2 : O) (e : TX.Env) (Q : O → TX.Env → Prop) (o : O), op o1 o2 = some o → Q o e → WR c r o1 o2 e Q
def SU (r : V → Hp → VK → Prop) (op : O → Option O) : Prop := ∀ c : Ct, c.K = K → ∀ (o1 : O) (e : TX.Env) (Q : O → TX.Env → Prop) (o : O), op o1 = some o → Q o e → WU c r o1 e Q
def SC (r : List V → Hp → VK → Prop) (op : List O → Option O) : Prop := ∀ c : Ct, c.K = K → ∀ (os : List O) (e : TX.Env) (Q : O → TX.Env → Prop) (o : O), op os = some o → Q o e → WC c r os e Q
end
section
variable {K : PySem.W.Frag} {fx : List Nat}
/-! ### expressions -/
def eVar (i : Nat) : FE := fun sl => match sl[i]? with
  | some (some (.sh d)) => .ok (.sh d) sl
  | some (some o) => .ok (.sh (toD o)) (sl.set i (some (.sh (toD o))))
  | _ => .bad
theorem se_var {i : Nat} : SE K fx (tVar i) (eVar i) := fun c hK hf sl g Q h => by
  unfold eVar at h
  split at h
  · rename_i d hd
    exact we_var hd h
  · rename_i o _ ho
    exact we_fz (e := ⟨sl, g⟩) ho h
  · exact h.elim
/-- handed on: the name holds it no longer -/
def eMv (i : Nat) : FE := fun sl => match sl[i]? with
  | some (some o) => .ok o (sl.set i none)
  | _ => .bad
theorem se_mv {i : Nat} : SE K fx (tVar i) (eMv i) := fun c hK hf sl g Q h => by
  unfold eMv at h
  split at h
  · rename_i o ho
    exact we_mv (e := ⟨sl, g⟩) ho h
  · exact h.elim
def eK (d : D) : FE := fun sl => .ok (.sh d) sl
theorem se_int {i : Int} : SE K fx (tC (.int i)) (eK (.int i)) := fun c hK hf sl g Q h => we_ci h
theorem se_bl {i : Bool} : SE K fx (tC (.bl i)) (eK (.bl i)) := fun c hK hf sl g Q h => we_cl h
theorem se_str {i : Str} : SE K fx (tC (.str i)) (eK (.str i)) := fun c hK hf sl g Q h => we_cs h
theorem se_non : SE K fx (tC .non) (eK .non) := fun c hK hf sl g Q h => we_cn h
def eOp (op : O → O → Option O) (fa fb : FE) : FE := fun sl => (fa sl).bind fun a s => (fb s).bind fun b s2 => ofO (op a b) s2
theorem ofO_holds {α : Type} {x : Option α} {s : Sl} {Q : α → Sl → Prop} (h : (ofO x s).holds Q) : ∃ o, x = some o ∧ Q o s := by
  cases x with
  | none => exact h.elim
  | some o => exact ⟨o, rfl, h⟩
theorem holds_mono {σ α : Type} {r : Rs σ α} {Q Q' : α → σ → Prop} (h : r.holds Q) (k : ∀ a s, Q a s → Q' a s) : r.holds Q' := by
  cases r with
  | ok a s => exact k a s h
  | ex x s => exact h.elim
  | bad => exact h.elim
theorem se_op {r : R2} {op : O → O → Option O} {ta tb : TE} {fa fb : FE} (hr : SO K r op) (ha : SE K fx ta fa) (hb : SE K fx tb fb) : SE K fx (tOp r ta tb) (eOp op fa fb) := fun c hK hf sl g Q h =>
  we_op (ha c hK hf sl g _ (holds_mono (holds_bind h) fun a s h1 => hb c hK hf s g _ (holds_mono (holds_bind h1) fun b s2 h2 => by
    obtain ⟨o, e, q⟩ := ofO_holds h2
    exact hr c hK a b _ Q o e q)))
def eUn (op : O → Option O) (fa : FE) : FE := fun sl => (fa sl).bind fun a s => ofO (op a) s
theorem se_un {r : V → Hp → VK → Prop} {op : O → Option O} {ta : TE} {fa : FE} (hr : SU K r op) (ha : SE K fx ta fa) : SE K fx (tUn r ta) (eUn op fa) := fun c hK hf sl g Q h =>
  we_un (ha c hK hf sl g _ (holds_mono (holds_bind h) fun a s h1 => by
    obtain ⟨o, e, q⟩ := ofO_holds h1
    exact hr c hK a _ Q o e q))
def asB : O → Option Bool
  | .sh (.bl b) => some b
  | _ => none
@[simp] theorem asB_bl (b : Bool) : asB (.sh (.bl b)) = some b := rfl
theorem asB_some {o : O} {b : Bool} (h : asB o = some b) : o = .sh (.bl b) := by
  unfold asB at h
  split at h
  · cases h; rfl
  · cases h
/-- a bool out of a run -/
def eB (fa : FE) : FT := fun sl => (fa sl).bind fun a s => ofO (asB a) s
theorem eB_holds {fa : FE} {sl : Sl} {Q : Bool → Sl → Prop} (h : (eB fa sl).holds Q) : (fa sl).holds fun o s => ∃ b, o = .sh (.bl b) ∧ Q b s := holds_mono (holds_bind h) fun a s h1 => by
  obtain ⟨b, e, q⟩ := ofO_holds h1
  exact ⟨b, asB_some e, q⟩
theorem st_test {te : TE} {fa : FE} (ha : SE K fx te fa) : ST K fx (tTest te) (eB fa) := fun c hK hf sl g Q h => wt_test (ha c hK hf sl g _ (eB_holds h))
theorem st_B {te : TE} {fa : FE} (ha : SE K fx te fa) : ST K fx (tB te) (eB fa) := fun c hK hf sl g Q h => wt_B (ha c hK hf sl g _ (eB_holds h))
def eNot (fa : FE) : FE := fun sl => (eB fa sl).bind fun b s => .ok (.sh (.bl (!b))) s
theorem se_not {te : TE} {fa : FE} (ha : SE K fx te fa) : SE K fx (tNotV te) (eNot fa) := fun c hK hf sl g Q h => we_not (ha c hK hf sl g _ (eB_holds (holds_bind h)))
def eAnd (fa fb : FE) : FE := fun sl => (eB fa sl).bind fun b s => if b = true then fb s else .ok (.sh (.bl false)) s
def eOr (fa fb : FE) : FE := fun sl => (eB fa sl).bind fun b s => if b = true then .ok (.sh (.bl true)) s else fb s
theorem ite_holds {σ α : Type} {r1 r2 : Rs σ α} {b : Bool} {Q : α → σ → Prop} (h : (if b = true then r1 else r2).holds Q) : if b = true then r1.holds Q else r2.holds Q := by
  cases b <;> exact h
theorem se_and {ta tb : TE} {fa fb : FE} (ha : SE K fx ta fa) (hb : SE K fx tb fb) : SE K fx (tAndV ta tb) (eAnd fa fb) := fun c hK hf sl g Q h => we_andV (ha c hK hf sl g _ (holds_mono (eB_holds (holds_bind h)) fun o s ⟨b, e, q⟩ => ⟨b, e, by
  cases b with
  | true => exact hb c hK hf s g Q q
  | false => exact q⟩))
theorem se_or {ta tb : TE} {fa fb : FE} (ha : SE K fx ta fa) (hb : SE K fx tb fb) : SE K fx (tOrV ta tb) (eOr fa fb) := fun c hK hf sl g Q h => we_orV (ha c hK hf sl g _ (holds_mono (eB_holds (holds_bind h)) fun o s ⟨b, e, q⟩ => ⟨b, e, by
  cases b with
  | true => exact q
  | false => exact hb c hK hf s g Q q⟩))
def eIf (ft : FT) (fa fb : FE) : FE := fun sl => (ft sl).bind fun b s => if b = true then fa s else fb s
theorem se_if {tt : TT} {ta tb : TE} {ft : FT} {fa fb : FE} (ht : ST K fx tt ft) (ha : SE K fx ta fa) (hb : SE K fx tb fb) : SE K fx (tIf tt ta tb) (eIf ft fa fb) := fun c hK hf sl g Q h =>
  we_if (ht c hK hf sl g _ (holds_mono (holds_bind h) fun b s q => by
    cases b with
    | true => exact ha c hK hf s g Q q
    | false => exact hb c hK hf s g Q q))
def tN (ft : FT) : FT := fun sl => (ft sl).bind fun b s => .ok (!b) s
theorem st_not {tt : TT} {ft : FT} (ht : ST K fx tt ft) : ST K fx (tNot tt) (tN ft) := fun c hK hf sl g Q h => wt_not (ht c hK hf sl g _ (holds_bind h))
def tA (fa fb : FT) : FT := fun sl => (fa sl).bind fun b s => if b = true then fb s else .ok false s
def tR (fa fb : FT) : FT := fun sl => (fa sl).bind fun b s => if b = true then .ok true s else fb s
theorem st_and {ta tb : TT} {fa fb : FT} (ha : ST K fx ta fa) (hb : ST K fx tb fb) : ST K fx (tAnd ta tb) (tA fa fb) := fun c hK hf sl g Q h => wt_and (ha c hK hf sl g _ (holds_mono (holds_bind h) fun b s q => by
  cases b with
  | true => exact hb c hK hf s g Q q
  | false => exact q))
theorem st_or {ta tb : TT} {fa fb : FT} (ha : ST K fx ta fa) (hb : ST K fx tb fb) : ST K fx (tOr ta tb) (tR fa fb) := fun c hK hf sl g Q h => wt_or (ha c hK hf sl g _ (holds_mono (holds_bind h) fun b s q => by
  cases b with
  | true => exact q
  | false => exact hb c hK hf s g Q q))
def tY : FT := fun sl => .ok true sl
theorem st_yes : ST K fx tYes tY := fun c hK hf sl g Q h => wt_yes h
/-! ### lists of arguments -/
def aN : FA := fun sl => .ok [] sl
def aC (fe : FE) (fa : FA) : FA := fun sl => (fe sl).bind fun o s => (fa s).bind fun os s2 => .ok (o :: os) s2
theorem sb_nil : SB K fx tNil aN := fun c hK hf sl g Q h => wa_nil h
theorem sb_cons {te : TE} {ta : TA} {fe : FE} {fa : FA} (he : SE K fx te fe) (ha : SB K fx ta fa) : SB K fx (tCons te ta) (aC fe fa) := fun c hK hf sl g Q h =>
  wa_cons (he c hK hf sl g _ (holds_mono (holds_bind h) fun o s h1 => ha c hK hf s g _ (holds_bind h1)))
def rN : FR := fun sl => .ok [] sl
def rV (fe : FE) (fa : FR) : FR := fun sl => (fe sl).bind fun o s => (fa s).bind fun os s2 => .ok (.v (toD o) :: os) s2
def rL (i : Nat) (fa : FR) : FR := fun sl => match sl[i]? with
  | some (some _) => (fa sl).bind fun os s2 => .ok (.l i :: os) s2
  | _ => .bad
theorem sr_nil : SR K fx tNil rN := fun c hK hf sl g Q h => wal_nil h
theorem sr_val {te : TE} {ta : TA} {fe : FE} {fa : FR} (he : SE K fx te fe) (ha : SR K fx ta fa) : SR K fx (tCons te ta) (rV fe fa) := fun c hK hf sl g Q h =>
  wal_val (he c hK hf sl g _ (holds_mono (holds_bind h) fun o s h1 => ha c hK hf s g _ (holds_bind h1)))
theorem sr_lend {i : Nat} {ta : TA} {fa : FR} (ha : SR K fx ta fa) : SR K fx (tCons (tVar i) ta) (rL i fa) := fun c hK hf sl g Q h => by
  unfold rL at h
  split at h
  · rename_i o ho
    exact wal_lend (e := ⟨sl, g⟩) ho (ha c hK hf sl g _ (holds_bind h))
  · exact h.elim
/-! ### calls -/
def eCall (C : Con) (fa : FR) : FE := fun sl => (fa sl).bind fun as s => if as.length = C.n ∧ posA as 0 = C.fx then runA C as s else .bad
theorem se_call {C : Con} {E : XK} {ta : TA} {fa : FR} (ha : SR K fx ta fa) : SE K fx (tCall (spT K C) [] E ta) (eCall C fa) := fun c hK hf sl g Q h => by
  subst hK
  refine we_callL (ha c rfl hf sl g _ (holds_mono (holds_bind h) fun as s h1 => ?_))
  split at h1
  · rename_i hh
    exact ⟨hh.1, hh.2, h1⟩
  · exact h1.elim
def eCallK (C : Con) (n m : Nat) (is : List Nat) (fa fb : FA) : FE := fun sl => (fa sl).bind fun os1 s => (fb s).bind fun os2 s2 =>
  if os1.length = n ∧ os2.length = m ∧ (pickL is (toDs os1 ++ toDs os2)).length = C.n ∧ C.fx = [] then runA C ((pickL is (toDs os1 ++ toDs os2)).map Ar.v) s2 else .bad
theorem se_callK {C : Con} {n m : Nat} {is : List Nat} {E : XK} {ta tb : TA} {fa fb : FA} (ha : SB K fx ta fa) (hb : SB K fx tb fb) : SE K fx (tCallK (spT K C) (gK n m is) E ta tb) (eCallK C n m is fa fb) := fun c hK hf sl g Q h => by
  subst hK
  refine we_callK (ha c rfl hf sl g _ (holds_mono (holds_bind h) fun os1 s h1 => hb c rfl hf s g _ (holds_mono (holds_bind h1) fun os2 s2 h2 => ?_)))
  split at h2
  · rename_i hh
    exact ⟨hh.1, hh.2.1, hh.2.2.1, hh.2.2.2, h2⟩
  · exact h2.elim
def eCB (f : List O → Option O) (fa : FA) : FE := fun sl => (fa sl).bind fun os s => ofO (f os) s
theorem se_cb {r : List V → Hp → VK → Prop} {f : List O → Option O} {ta : TA} {fa : FA} (hr : SC K r f) (ha : SB K fx ta fa) : SE K fx (tCB r ta) (eCB f fa) := fun c hK hf sl g Q h =>
  we_cb (ha c hK hf sl g _ (holds_mono (holds_bind h) fun os s h1 => by
    obtain ⟨o, e, q⟩ := ofO_holds h1
    exact hr c hK os _ Q o e q))
/-- a list that a name holds alone, looked into: what comes out has no part of it -/
def ePk (i : Nat) (fe : FE) : FE := fun sl => match sl[i]? with
  | some (some (.sh _)) => fe sl
  | some (some o) => (fe ((hide sl).set i (some (.sh (toD o))))).bind fun r _ => if indep r = true then .ok r sl else .bad
  | _ => .bad
theorem se_pk {i : Nat} {te : TE} {fe : FE} (he : SE K fx te fe) : SE K fx te (ePk i fe) := fun c hK hf sl g Q h => by
  unfold ePk at h
  split at h
  · exact he c hK hf sl g Q h
  · rename_i o _ ho
    refine we_lend (e := ⟨sl, g⟩) i ho fun c' h1 h2 => he c' (h1.trans hK) (h2.trans hf) _ g _ (holds_mono (holds_bind h) fun r s h1 => ?_)
    split at h1
    · rename_i hi
      exact ⟨hi, h1⟩
    · exact h1.elim
  · exact h.elim
def tPk (i : Nat) (fe : FT) : FT := fun sl => match sl[i]? with
  | some (some (.sh _)) => fe sl
  | some (some o) => (fe ((hide sl).set i (some (.sh (toD o))))).bind fun r _ => .ok r sl
  | _ => .bad
theorem st_pk {i : Nat} {tt : TT} {fe : FT} (he : ST K fx tt fe) : ST K fx tt (tPk i fe) := fun c hK hf sl g Q h => by
  unfold tPk at h
  split at h
  · exact he c hK hf sl g Q h
  · rename_i o _ ho
    exact wt_lend (e := ⟨sl, g⟩) i ho fun c' h1 h2 => he c' (h1.trans hK) (h2.trans hf) _ g _ (holds_bind h)
  · exact h.elim
/-! ### displays -/
def eLst (fa : FA) : FE := fun sl => (fa sl).bind fun os s => if os.length ≤ 100000 then .ok (.lst os) s else .bad
theorem se_lst {ta : TA} {fa : FA} (ha : SB K fx ta fa) : SE K fx (tLst ta) (eLst fa) := fun c hK hf sl g Q h => we_lst (ha c hK hf sl g _ (holds_mono (holds_bind h) fun os s h1 => by
  split at h1
  · rename_i hh
    exact ⟨hh, h1⟩
  · exact h1.elim))
def eTup (fa : FA) : FE := fun sl => (fa sl).bind fun os s => if os.length ≤ 100000 then .ok (.sh (.tup (toDs os))) s else .bad
theorem se_tup {ta : TA} {fa : FA} (ha : SB K fx ta fa) : SE K fx (tTupF ta) (eTup fa) := fun c hK hf sl g Q h => we_tup (ha c hK hf sl g _ (holds_mono (holds_bind h) fun os s h1 => by
  split at h1
  · rename_i hh
    exact ⟨hh, nobxs_all _, h1⟩
  · exact h1.elim))
/-- a tuple that is taken apart at once -/
def eRaw (fa : FA) : FE := fun sl => (fa sl).bind fun os s => if os.length ≤ 100000 then .ok (.sh (.raw (toDs os))) s else .bad
theorem se_raw {ta : TA} {fa : FA} (ha : SB K fx ta fa) : SE K fx (tTup ta) (eRaw fa) := fun c hK hf sl g Q h S H ts vs σ rr Q' k => by
  have h2 : (fa sl).holds fun os s => os.length ≤ 100000 ∧ Q (.sh (.raw (toDs os))) ⟨s, g⟩ := holds_mono (holds_bind h) fun os s h1 => by
    split at h1
    · rename_i hh
      exact ⟨hh, h1⟩
    · exact h1.elim
  refine ha c hK hf sl g (fun os e => os.length ≤ 100000 ∧ Q (.sh (.raw (toDs os))) e) h2 S H ts vs σ rr _ fun os us e1 S1 H1 r1 l q => ⟨sz (by rw [l]; exact q.1), fun p hp => ?_⟩
  obtain ⟨S2, s2, r2⟩ := r1.freezes l (nobxs_all _)
  have a := r2.sh_all (by rw [l, toDs_len0])
  obtain ⟨r3, s3⟩ := (r2.pops (by rw [l, List.length_map, toDs_len0])).share (u := .tup us) hp
  refine k _ _ _ _ _ (r3.push (d := .raw (toDs os)) ?_) q.2
  simp only [Rep]
  exact ⟨p, us, rfl, upd_same, Reps.mono s3 _ _ a⟩
def pN : FP := fun sl => .ok none sl
def asI : O → Option Int
  | .sh (.int i) => some i
  | _ => none
@[simp] theorem asI_int (i : Int) : asI (.sh (.int i)) = some i := rfl
theorem asI_some {o : O} {b : Int} (h : asI o = some b) : o = .sh (.int b) := by
  unfold asI at h
  split at h
  · cases h; rfl
  · cases h
def pS (fe : FE) : FP := fun sl => (fe sl).bind fun o s => ofO ((asI o).map some) s
theorem sp_none : SP K fx tNoPart pN := fun c hK hf sl g Q h => wo_none h
theorem sp_some {te : TE} {fe : FE} (he : SE K fx te fe) : SP K fx (tPart te) (pS fe) := fun c hK hf sl g Q h => wo_some (he c hK hf sl g _ (holds_mono (holds_bind h) fun o s h1 => by
  obtain ⟨x, e, q⟩ := ofO_holds h1
  cases z : asI o with
  | none => rw [z] at e; cases e
  | some i =>
    rw [z] at e
    cases e
    exact ⟨i, asI_some z, q⟩))
/-! ### statements -/
def sSeq (fa fb : FS) : FS := fun sl => (fa sl).bind fun fl s => match fl with
  | .nx => fb s
  | .rt o => .ok (.rt o) s
  | .bk => .ok .bk s
  | .ct => .ok .ct s
theorem ss_seq {t u : TS} {fa fb : FS} (ha : SS K fx t fa) (hb : SS K fx u fb) : SS K fx (tSeq t u) (sSeq fa fb) := fun c hK hf sl g P h => ws_seq (ha c hK hf sl g _ (holds_mono (holds_bind h) fun fl s h1 => by
  cases fl with
  | nx => exact hb c hK hf s g P h1
  | rt o => exact h1
  | bk => exact h1
  | ct => exact h1))
def sNx : FS := fun sl => .ok .nx sl
def sBk : FS := fun sl => .ok .bk sl
def sCt : FS := fun sl => .ok .ct sl
theorem ss_next : SS K fx tNext sNx := fun c hK hf sl g P h => ws_next h
theorem ss_break : SS K fx tBreak sBk := fun c hK hf sl g P h => ws_break h
theorem ss_cont : SS K fx tCont sCt := fun c hK hf sl g P h => ws_cont h
def sDrop (fe : FE) : FS := fun sl => (fe sl).bind fun _ s => .ok .nx s
theorem ss_drop {te : TE} {fe : FE} (he : SE K fx te fe) : SS K fx (tDrop te) (sDrop fe) := fun c hK hf sl g P h => ws_drop (he c hK hf sl g _ (holds_bind h))
def sRet (fe : FE) : FS := fun sl => (fe sl).bind fun o s => .ok (.rt o) s
theorem ss_ret {te : TE} {fe : FE} (he : SE K fx te fe) : SS K fx (tRet te) (sRet fe) := fun c hK hf sl g P h => ws_ret (he c hK hf sl g _ (holds_bind h))
def sRetN : FS := fun sl => .ok (.rt (.sh .non)) sl
theorem ss_retN : SS K fx tRetN sRetN := fun c hK hf sl g P h => ws_retN h
def sIf (ft : FT) (fa fb : FS) : FS := fun sl => (ft sl).bind fun b s => if b = true then fa s else fb s
theorem ss_if {tt : TT} {t u : TS} {ft : FT} {fa fb : FS} (ht : ST K fx tt ft) (ha : SS K fx t fa) (hb : SS K fx u fb) : SS K fx (tIfS tt t u) (sIf ft fa fb) := fun c hK hf sl g P h => ws_if (ht c hK hf sl g _ (holds_mono (holds_bind h) fun b s q => by
  cases b with
  | true => exact ha c hK hf s g P q
  | false => exact hb c hK hf s g P q))
def sBad : FS := fun _ => .bad
theorem ss_dead {t : TS} : SS K fx t sBad := fun c hK hf sl g P h => h.elim
/-- slots that are not asked for any more -/
def sFg (is : List Nat) (f : FS) : FS := fun sl => f (wipeS sl is)
theorem ss_fg {t : TS} {f : FS} {is : List Nat} (h : SS K fx t f) : SS K fx t (sFg is f) := fun c hK hf sl g P q => by
  have : ∀ (is : List Nat), WS c t ⟨wipeS sl is, g⟩ P → WS c t ⟨sl, g⟩ P := by
    intro is
    induction is with
    | nil => exact fun z => z
    | cons i is ih => exact fun z => ih (ws_forget (e := ⟨wipeS sl is, g⟩) i z)
  exact this is (h c hK hf _ g P q)
/-! ### targets -/
def gN (i : Nat) : FG := fun o sl => .ok () (sl.set i (some o))
theorem sg_name {i : Nat} (hi : i ∉ fx) : SG K fx (gName i) (gN i) := fun c hK hf o sl g Q h => wg_name (by rw [hf]; exact hi) h
theorem sgw_name {i : Nat} {own : List Nat} (hi : i ∉ fx) (ho : i ∈ own) : SGW K fx own (gName i) (gN i) := fun c hK hf o sl g Q h => wgw_name (by rw [hf]; exact hi) ho h
def sAsg (fe : FE) (fg : FG) : FS := fun sl => (fe sl).bind fun o s => (fg o s).bind fun _ s2 => .ok .nx s2
theorem ss_asg {te : TE} {tg : TG} {fe : FE} {fg : FG} (he : SE K fx te fe) (hg : SG K fx tg fg) : SS K fx (tAsg te tg) (sAsg fe fg) := fun c hK hf sl g P h => ws_asg (he c hK hf sl g _ (holds_mono (holds_bind h) fun o s h1 => hg c hK hf o s g _ (holds_bind h1)))
/-- several names at once, from a written tuple -/
def setN : Sl → List Nat → List O → Option Sl
  | sl, [], [] => some sl
  | sl, i :: is, o :: os => setN (sl.set i (some o)) is os
  | _, _, _ => none
theorem setN_all : ∀ {is : List Nat} {os : List O} {sl s2 : Sl}, setN sl is os = some s2 → os.length = is.length ∧ s2 = setAll sl is os
  | [], [], sl, s2, h => by
    simp only [setN, Option.some.injEq] at h
    exact ⟨rfl, h.symm⟩
  | i :: is, o :: os, sl, s2, h => by
    simp only [setN] at h
    obtain ⟨a, b⟩ := setN_all h
    exact ⟨by simp [a], b⟩
  | [], o :: os, sl, s2, h => by simp [setN] at h
  | i :: is, [], sl, s2, h => by simp [setN] at h
def sPar (is : List Nat) (fa : FA) : FS := fun sl => (fa sl).bind fun os s => match setN s is os with
  | some s2 => .ok .nx s2
  | none => .bad
theorem par_holds {is : List Nat} {fa : FA} {sl : Sl} {Q : Fl → Sl → Prop} (h : (sPar is fa sl).holds Q) : (fa sl).holds fun os s => os.length = is.length ∧ Q .nx (setAll s is os) := holds_mono (holds_bind h) fun os s h1 => by
  split at h1
  · rename_i s2 hs
    obtain ⟨a, b⟩ := setN_all hs
    exact ⟨a, by rw [← b]; exact h1⟩
  · exact h1.elim
theorem ss_par {ta : TA} {fa : FA} {i j : Nat} (hi : i ∉ fx) (hj : j ∉ fx) (ha : SB K fx ta fa) : SS K fx (tPar i j ta) (sPar [i, j] fa) := fun c hK hf sl g P h => ws_par (by rw [hf]; exact hi) (by rw [hf]; exact hj) (ha c hK hf sl g _ (par_holds h))
theorem ss_par3 {ta : TA} {fa : FA} {i j k : Nat} (hi : i ∉ fx) (hj : j ∉ fx) (hk : k ∉ fx) (ha : SB K fx ta fa) : SS K fx (tPar3 i j k ta) (sPar [i, j, k] fa) := fun c hK hf sl g P h => ws_par3 (by rw [hf]; exact hi) (by rw [hf]; exact hj) (by rw [hf]; exact hk) (ha c hK hf sl g _ (par_holds h))
theorem ss_parT {ta : TA} {fa : FA} {is : List Nat} {n : Nat} (hi : ∀ i ∈ is, i ∉ fx) (hn : is.length = n) (hs : n ≤ 1000) (ha : SB K fx ta fa) : SS K fx (tAsg (tTup ta) (gTup K n (gNames is))) (sPar is fa) := fun c hK hf sl g P h => by
  subst hK
  exact ws_asgT (ha c rfl hf sl g _ (par_holds h)) hn hs (by rw [hf]; exact hi)
/-- .. from any tuple: whatever targets -/
def SGs (K : PySem.W.Frag) (fx : List Nat) (t : TGs) (f : FGs) : Prop := ∀ c : Ct, c.K = K → c.fx = fx → ∀ (ds : List D) (sl : Sl) (g : Nat) (Q : TX.Env → Prop), ((f ds sl).holds fun _ s => Q ⟨s, g⟩) →
  ∀ S H ts vs us σ, R c S H (ds.map O.sh ++ ts) (us ++ vs) ⟨sl, g⟩ σ → us.length = ds.length → ∀ Q' : L2.St → Hp → Prop, (∀ e' S' H' σ', R c S' H' ts vs e' σ' → Q e' → Q' σ' H') → t us σ H Q'
def SGsW (K : PySem.W.Frag) (fx : List Nat) (own : List Nat) (t : TGs) (f : FGs) : Prop := ∀ c : Ct, c.K = K → c.fx = fx → ∀ (ds : List D) (sl : Sl) (g : Nat) (Q : TX.Env → Prop), ((f ds sl).holds fun _ s => Q ⟨s, g⟩) →
  ∀ S H ts vs us σ, R c S H (ds.map O.sh ++ ts) (us ++ vs) ⟨sl, g⟩ σ → us.length = ds.length → ∀ Q' : L2.St → Hp → Prop, (∀ e' S' H' σ', R c S' H' ts vs e' σ' → wipe σ' own = wipe σ own → Q e' → Q' σ' H') → t us σ H Q'
def gsN : FGs := fun ds sl => match ds with
  | [] => .ok () sl
  | _ => .bad
def gsC (fg : FG) (fs : FGs) : FGs := fun ds sl => match ds with
  | d :: ds => (fg (.sh d) sl).bind fun _ s => fs ds s
  | [] => .bad
theorem sgs_nil : SGs K fx gNil gsN := fun c hK hf ds sl g Q h S H ts vs us σ r l Q' k => by
  cases ds with
  | nil =>
    have e : us = [] := List.length_eq_zero_iff.mp l
    subst e
    exact ⟨rfl, k _ _ _ _ r h⟩
  | cons d ds => exact h.elim
theorem sgs_cons {t : TG} {u : TGs} {fg : FG} {fs : FGs} (ht : SG K fx t fg) (hu : SGs K fx u fs) : SGs K fx (gCons t u) (gsC fg fs) := fun c hK hf ds sl g Q h S H ts vs us σ r l Q' k => by
  cases ds with
  | nil => exact h.elim
  | cons d ds =>
    match us, l with
    | u0 :: us, l =>
      refine ⟨u0, us, rfl, ?_⟩
      exact ht c hK hf (.sh d) sl g (fun e' => ∃ s, e' = ⟨s, g⟩ ∧ (fs ds s).holds fun _ s => Q ⟨s, g⟩) (holds_mono (holds_bind h) fun _ s h1 => ⟨s, rfl, h1⟩) S H _ _ u0 σ r _ fun e' S' H' σ' r' ⟨s, e1, h1⟩ => by
        subst e1
        exact hu c hK hf ds s g Q h1 S' H' ts vs us σ' r' (by simpa using l) Q' k
theorem sgsw_nil {own : List Nat} : SGsW K fx own gNil gsN := fun c hK hf ds sl g Q h S H ts vs us σ r l Q' k => by
  cases ds with
  | nil =>
    have e : us = [] := List.length_eq_zero_iff.mp l
    subst e
    exact ⟨rfl, k _ _ _ _ r rfl h⟩
  | cons d ds => exact h.elim
theorem sgsw_cons {own : List Nat} {t : TG} {u : TGs} {fg : FG} {fs : FGs} (ht : SGW K fx own t fg) (hu : SGsW K fx own u fs) : SGsW K fx own (gCons t u) (gsC fg fs) := fun c hK hf ds sl g Q h S H ts vs us σ r l Q' k => by
  cases ds with
  | nil => exact h.elim
  | cons d ds =>
    match us, l with
    | u0 :: us, l =>
      refine ⟨u0, us, rfl, ?_⟩
      exact ht c hK hf (.sh d) sl g (fun e' => ∃ s, e' = ⟨s, g⟩ ∧ (fs ds s).holds fun _ s => Q ⟨s, g⟩) (holds_mono (holds_bind h) fun _ s h1 => ⟨s, rfl, h1⟩) S H _ _ u0 σ r _ fun e' S' H' σ' r' w ⟨s, e1, h1⟩ => by
        subst e1
        exact hu c hK hf ds s g Q h1 S' H' ts vs us σ' r' (by simpa using l) Q' fun e2 S2 H2 σ2 r2 w2 q2 => k e2 S2 H2 σ2 r2 (w2.trans w) q2
def parts : D → Option (List D)
  | .tup ds => some ds
  | .raw ds => some ds
  | _ => none
def gT (n : Nat) (fs : FGs) : FG := fun o sl => match parts (toD o) with
  | some ds => if ds.length = n then fs ds sl else .bad
  | none => .bad
theorem parts_some {d : D} {ds : List D} (h : parts d = some ds) : d = .tup ds ∨ d = .raw ds := by
  unfold parts at h
  split at h
  · cases h; exact .inl rfl
  · cases h; exact .inr rfl
  · cases h
theorem sg_tup {n : Nat} {t : TGs} {fs : FGs} (ht : SGs K fx t fs) : SG K fx (gTup K n t) (gT n fs) := fun c hK hf o sl g Q h S H ts vs v σ rr Q' k => by
  unfold gT at h
  split at h
  · rename_i ds hd
    split at h
    · rename_i hn
      obtain ⟨S2, p, xs, rfl, h2, h3, r2⟩ := tup_open rr (nobx_all _) (parts_some hd)
      rw [hK] at h2
      exact ⟨p, xs, rfl, h2, h3.trans hn, ht c hK hf ds sl g Q h S2 H ts vs xs σ r2 h3 Q' k⟩
    · exact h.elim
  · exact h.elim
theorem sgw_tup {own : List Nat} {n : Nat} {t : TGs} {fs : FGs} (ht : SGsW K fx own t fs) : SGW K fx own (gTup K n t) (gT n fs) := fun c hK hf o sl g Q h S H ts vs v σ rr Q' k => by
  unfold gT at h
  split at h
  · rename_i ds hd
    split at h
    · rename_i hn
      obtain ⟨S2, p, xs, rfl, h2, h3, r2⟩ := tup_open rr (nobx_all _) (parts_some hd)
      rw [hK] at h2
      exact ⟨p, xs, rfl, h2, h3.trans hn, ht c hK hf ds sl g Q h S2 H ts vs xs σ r2 h3 Q' k⟩
    · exact h.elim
  · exact h.elim
/-! ### loops -/
def forL (fg : FG) (fb : FS) : List D → FS
  | [], s => .ok .nx s
  | d :: ds, s => (fg (.sh d) s).bind fun _ s1 => (fb s1).bind fun fl s2 => match fl with
    | .nx => forL fg fb ds s2
    | .ct => forL fg fb ds s2
    | .bk => .ok .nx s2
    | .rt o => .ok (.rt o) s2
def sFor (fi : FI) (fg : FG) (fb : FS) : FS := fun sl => (fi sl).bind fun ds s => forL fg fb ds s
theorem for_wfor {tg : TG} {tb : TS} {fg : FG} {fb : FS} (hg : SG K fx tg fg) (hb : SS K fx tb fb) {c : Ct} (hK : c.K = K) (hf : c.fx = fx) {g : Nat} {P : Post} : ∀ (ds : List D) (s : Sl), ((forL fg fb ds s).holds fun fl s => P.fl g fl s) → WFor c tg tb P ds ⟨s, g⟩
  | [], s, h => h
  | d :: ds, s, h => by
    refine hg c hK hf (.sh d) s g _ (holds_mono (holds_bind h) fun _ s1 h1 => hb c hK hf s1 g _ (holds_mono (holds_bind h1) fun fl s2 h2 => ?_))
    cases fl with
    | nx => exact for_wfor hg hb hK hf ds s2 h2
    | ct => exact for_wfor hg hb hK hf ds s2 h2
    | bk => exact h2
    | rt o => exact h2
theorem ss_for {wi : TI} {tg : TG} {tb : TS} {fi : FI} {fg : FG} {fb : FS} (hi : SI K fx wi fi) (hg : SG K fx tg fg) (hb : SS K fx tb fb) : SS K fx (tFor wi tg tb) (sFor fi fg fb) := fun c hK hf sl g P h =>
  ws_for (hi c hK hf sl g _ (holds_mono (holds_bind h) fun ds s h1 => for_wfor hg hb hK hf ds s h1))
def whL (ft : FT) (fb : FS) : Nat → FS
  | 0, _ => .bad
  | n + 1, s => (ft s).bind fun b s1 => if b = true then (fb s1).bind fun fl s2 => match fl with
    | .nx => whL ft fb n s2
    | .ct => whL ft fb n s2
    | .bk => .ok .nx s2
    | .rt o => .ok (.rt o) s2
    else .ok .nx s1
def sWh (n : Nat) (ft : FT) (fb : FS) : FS := whL ft fb n
theorem wh_wwh {tc : TT} {tb : TS} {ft : FT} {fb : FS} (ht : ST K fx tc ft) (hb : SS K fx tb fb) {c : Ct} (hK : c.K = K) (hf : c.fx = fx) {g : Nat} {P : Post} : ∀ (n : Nat) (s : Sl), ((whL ft fb n s).holds fun fl s => P.fl g fl s) → WWh c tc tb P n ⟨s, g⟩
  | 0, s, h => h.elim
  | n + 1, s, h => by
    refine ht c hK hf s g _ (holds_mono (holds_bind h) fun b s1 h1 => ?_)
    cases b with
    | false => exact h1
    | true =>
      refine hb c hK hf s1 g _ (holds_mono (holds_bind (show ((fb s1).bind _).holds _ from h1)) fun fl s2 h2 => ?_)
      cases fl with
      | nx => exact wh_wwh ht hb hK hf n s2 h2
      | ct => exact wh_wwh ht hb hK hf n s2 h2
      | bk => exact h2
      | rt o => exact h2
theorem ss_while {tc : TT} {tb : TS} {ft : FT} {fb : FS} {n : Nat} (ht : ST K fx tc ft) (hb : SS K fx tb fb) : SS K fx (tWhile tc tb) (sWh n ft fb) := fun c hK hf sl g P h => ws_while n (wh_wwh ht hb hK hf n sl h)
/-! ### comprehensions -/
def lcL (own : List Nat) (fg : FG) (ft : FT) (fe : FE) : List D → List O → FE
  | [], acc, s => .ok (.lst acc) s
  | d :: ds, acc, s => (fg (.sh d) s).bind fun _ s1 => (ft s1).bind fun b s2 => if b = true then (fe s2).bind fun o s3 => if acc.length < 100000 then lcL own fg ft fe ds (acc ++ [o]) (wipeS s3 own) else .bad
    else lcL own fg ft fe ds acc (wipeS s2 own)
def eLc (own : List Nat) (fi : FI) (fg : FG) (ft : FT) (fe : FE) : FE := fun sl => (fi sl).bind fun ds s => lcL own fg ft fe ds [] (wipeS s own)
theorem lc_wlc {own : List Nat} {tg : TG} {tt : TT} {te : TE} {fg : FG} {ft : FT} {fe : FE} (hg : SGW K fx own tg fg) (ht : ST K fx tt ft) (he : SE K fx te fe) {c : Ct} (hK : c.K = K) (hf : c.fx = fx) {g : Nat} {Q : O → TX.Env → Prop} :
    ∀ (ds : List D) (acc : List O) (s : Sl), ((lcL own fg ft fe ds acc s).holds fun o s => Q o ⟨s, g⟩) → WLc c tg tt te own Q ds acc ⟨s, g⟩
  | [], acc, s, h => h
  | d :: ds, acc, s, h => by
    refine hg c hK hf (.sh d) s g _ (holds_mono (holds_bind h) fun _ s1 h1 => ht c hK hf s1 g _ (holds_mono (holds_bind h1) fun b s2 h2 => ?_))
    cases b with
    | true =>
      refine he c hK hf s2 g _ (holds_mono (holds_bind (show ((fe s2).bind _).holds _ from h2)) fun o s3 h3 => ?_)
      split at h3
      · rename_i hl
        exact ⟨hl, lc_wlc hg ht he hK hf ds _ _ h3⟩
      · exact h3.elim
    | false => exact lc_wlc hg ht he hK hf ds _ _ h2
theorem se_lc {own : List Nat} {wi : TI} {tg : TG} {tt : TT} {te : TE} {fi : FI} {fg : FG} {ft : FT} {fe : FE} (dj : ∀ i ∈ own, i ∉ fx) (hi : SI K fx wi fi) (hg : SGW K fx own tg fg) (ht : ST K fx tt ft) (he : SE K fx te fe) : SE K fx (tLc wi tg tt te own) (eLc own fi fg ft fe) := fun c hK hf sl g Q h =>
  we_lc (by rw [hf]; exact dj) (hi c hK hf sl g _ (holds_mono (holds_bind h) fun ds s h1 => lc_wlc hg ht he hK hf ds [] _ h1))
end
end TX
end

section
namespace TX
open PySem PySem.Spec PyProof.Rows L2
/-! ### values -/
theorem toD_int {o : O} {i : Int} (h : toD o = .int i) : o = .sh (.int i) := by
  cases o <;> simp [toD] at h
  rw [h]
theorem toD_bl {o : O} {i : Bool} (h : toD o = .bl i) : o = .sh (.bl i) := by
  cases o <;> simp [toD] at h
  rw [h]
theorem toD_str {o : O} {i : Str} (h : toD o = .str i) : o = .sh (.str i) := by
  cases o <;> simp [toD] at h
  rw [h]
theorem toD_non {o : O} (h : toD o = .non) : o = .sh .non := by
  cases o <;> simp [toD] at h
  rw [h]
theorem toD_set {o : O} {ns : List Int} (h : toD o = .set ns) : o = .sh (.set ns) := by
  cases o <;> simp [toD] at h
  rw [h]
@[simp] theorem toD_sh (d : D) : toD (.sh d) = d := rfl
@[simp] theorem toD_lst (os : List O) : toD (.lst os) = .lst (toDs os) := rfl
@[simp] theorem toDs_nil : toDs [] = [] := rfl
@[simp] theorem toDs_cons (o : O) (os : List O) : toDs (o :: os) = toD o :: toDs os := rfl
@[simp] theorem toDs_shs (ds : List D) : toDs (ds.map O.sh) = ds := toDs_map ds
@[simp] theorem toDs_app : ∀ (os ps : List O), toDs (os ++ ps) = toDs os ++ toDs ps
  | [], ps => rfl
  | o :: os, ps => by simp only [List.cons_append, toDs_cons, toDs_app os ps]
def intsOf : List D → Option (List Int)
  | [] => some []
  | .int i :: ds => (intsOf ds).map (i :: ·)
  | _ => none
theorem intsOf_some : ∀ {ds : List D} {ns : List Int}, intsOf ds = some ns → ds = ns.map D.int
  | [], ns, h => by
    simp only [intsOf, Option.some.injEq] at h
    rw [← h]
    rfl
  | d :: ds, ns, h => by
    cases d <;> simp only [intsOf] at h <;> try cases h
    cases q : intsOf ds with
    | none => rw [q] at h; cases h
    | some ms =>
      rw [q] at h
      simp only [Option.map_some, Option.some.injEq] at h
      rw [← h, intsOf_some q]
      rfl
@[simp] theorem intsOf_map (ns : List Int) : intsOf (ns.map D.int) = some ns := by
  induction ns with
  | nil => rfl
  | cons n ns ih => simp only [List.map_cons, intsOf, ih, Option.map_some]
def boolsOf : List D → Option (List Bool)
  | [] => some []
  | .bl i :: ds => (boolsOf ds).map (i :: ·)
  | _ => none
theorem boolsOf_some : ∀ {ds : List D} {ns : List Bool}, boolsOf ds = some ns → ds = ns.map D.bl
  | [], ns, h => by
    simp only [boolsOf, Option.some.injEq] at h
    rw [← h]
    rfl
  | d :: ds, ns, h => by
    cases d <;> simp only [boolsOf] at h <;> try cases h
    cases q : boolsOf ds with
    | none => rw [q] at h; cases h
    | some ms =>
      rw [q] at h
      simp only [Option.map_some, Option.some.injEq] at h
      rw [← h, boolsOf_some q]
      rfl
@[simp] theorem boolsOf_map (ns : List Bool) : boolsOf (ns.map D.bl) = some ns := by
  induction ns with
  | nil => rfl
  | cons n ns ih => simp only [List.map_cons, boolsOf, ih, Option.map_some]
def pairsOf : List D → Option (List (Int × Int))
  | [] => some []
  | .tup [.int a, .int b] :: ds => (pairsOf ds).map ((a, b) :: ·)
  | _ => none
theorem pairsOf_cons {d : D} {ds : List D} {ns : List (Int × Int)} (h : pairsOf (d :: ds) = some ns) : ∃ a b ms, d = .tup [.int a, .int b] ∧ pairsOf ds = some ms ∧ ns = (a, b) :: ms := by
  unfold pairsOf at h
  split at h
  · cases ‹d :: ds = []›
  · rename_i a b ds' e
    obtain ⟨rfl, rfl⟩ := List.cons.inj e
    cases q : pairsOf ds with
    | none => rw [q] at h; cases h
    | some ms =>
      rw [q] at h
      simp only [Option.map_some, Option.some.injEq] at h
      exact ⟨a, b, ms, rfl, rfl, h.symm⟩
  · cases h
theorem pairsOf_some : ∀ {ds : List D} {ns : List (Int × Int)}, pairsOf ds = some ns → ds = ns.map pairI
  | [], ns, h => by
    simp only [pairsOf, Option.some.injEq] at h
    rw [← h]
    rfl
  | d :: ds, ns, h => by
    obtain ⟨a, b, ms, rfl, q, rfl⟩ := pairsOf_cons h
    rw [pairsOf_some q]
    rfl
@[simp] theorem pairsOf_map (ns : List (Int × Int)) : pairsOf (ns.map pairI) = some ns := by
  induction ns with
  | nil => rfl
  | cons n ns ih =>
    rw [List.map_cons]
    show (pairsOf (ns.map pairI)).map ((n.1, n.2) :: ·) = _
    rw [ih]
    rfl
/-! ### operators -/
section
variable {K : PySem.W.Frag} {fx : List Nat}
def d2 (f : D → D → Option O) : O → O → Option O := fun a b => f (toD a) (toD b)
@[simp] theorem d2_sh (f : D → D → Option O) (a b : D) : d2 f (.sh a) (.sh b) = f a b := rfl
def iD (f : Int → Int → D) : D → D → Option O
  | .int i, .int j => some (.sh (f i j))
  | _, _ => none
theorem iD_some {f : Int → Int → D} {a b : O} {o : O} (h : d2 (iD f) a b = some o) : ∃ i j, a = .sh (.int i) ∧ b = .sh (.int j) ∧ o = .sh (f i j) := by
  unfold d2 iD at h
  split at h
  · rename_i i j h1 h2
    cases h
    exact ⟨i, j, toD_int h1, toD_int h2, rfl⟩
  · cases h
theorem so_i {f : Int → Int → Int} : SO K (rI0 fun i j => .int (f i j)) (d2 (iD fun i j => .int (f i j))) := fun c hK o1 o2 e Q o h q => by
  obtain ⟨i, j, rfl, rfl, rfl⟩ := iD_some h
  exact wr_I0i q
theorem so_b {f : Int → Int → Bool} : SO K (rI0 fun i j => .bl (f i j)) (d2 (iD fun i j => .bl (f i j))) := fun c hK o1 o2 e Q o h q => by
  obtain ⟨i, j, rfl, rfl, rfl⟩ := iD_some h
  exact wr_I0b q
abbrev oSub : O → O → Option O := d2 (iD fun i j => .int (i - j))
abbrev oLt : O → O → Option O := d2 (iD fun i j => .bl (decide (i < j)))
abbrev oLe : O → O → Option O := d2 (iD fun i j => .bl (decide (i ≤ j)))
abbrev oGt : O → O → Option O := d2 (iD fun i j => .bl (decide (j < i)))
abbrev oGe : O → O → Option O := d2 (iD fun i j => .bl (decide (j ≤ i)))
def iC (C : Int → Int → Bool) (f : Int → Int → Int) : D → D → Option O
  | .int i, .int j => if C i j = true then some (.sh (.int (f i j))) else none
  | _, _ => none
theorem iC_some {C : Int → Int → Bool} {f : Int → Int → Int} {a b : O} {o : O} (h : d2 (iC C f) a b = some o) : ∃ i j, a = .sh (.int i) ∧ b = .sh (.int j) ∧ C i j = true ∧ o = .sh (.int (f i j)) := by
  unfold d2 iC at h
  split at h
  · rename_i i j h1 h2
    split at h
    · rename_i hc
      cases h
      exact ⟨i, j, toD_int h1, toD_int h2, hc, rfl⟩
    · cases h
  · cases h
abbrev oMod : O → O → Option O := d2 (iC (fun _ j => decide (0 < j)) fun i j => i % j)
theorem so_mod : SO K (rI (fun _ j => 0 < j) fun i j => .int (i % j)) oMod := fun c hK o1 o2 e Q o h q => by
  obtain ⟨i, j, rfl, rfl, hc, rfl⟩ := iC_some h
  exact wr_mod (of_decide_eq_true hc) q
abbrev oDiv : O → O → Option O := d2 (iC (fun _ j => decide (0 < j) && decide (j < 1073741824)) fun i j => i / j)
theorem so_div : SO K (rI CDiv fun i j => .int (i / j)) oDiv := fun c hK o1 o2 e Q o h q => by
  obtain ⟨i, j, rfl, rfl, hc, rfl⟩ := iC_some h
  rw [Bool.and_eq_true] at hc
  exact wr_div (of_decide_eq_true hc.1) (of_decide_eq_true hc.2) q
abbrev oPow : O → O → Option O := d2 (iC (fun i j => decide (0 ≤ j) && decide (j ≤ 1000000) && decide (i.natAbs < 2 ^ 64)) fun i j => i ^ j.toNat)
theorem so_pow : SO K (rI CPow fun i j => .int (i ^ j.toNat)) oPow := fun c hK o1 o2 e Q o h q => by
  obtain ⟨i, j, rfl, rfl, hc, rfl⟩ := iC_some h
  rw [Bool.and_eq_true, Bool.and_eq_true] at hc
  exact wr_pow (of_decide_eq_true hc.1.1) (of_decide_eq_true hc.1.2) (of_decide_eq_true hc.2) q
def small (i : Int) : Bool := decide (-(2 ^ 64) < i) && decide (i < 2 ^ 64)
theorem small_of {i : Int} (h1 : -(2 ^ 64) < i) (h2 : i < 2 ^ 64) : small i = true := by
  unfold small
  rw [decide_eq_true h1, decide_eq_true h2]
  rfl
theorem small_iff {i : Int} : small i = true ↔ -(2 ^ 64) < i ∧ i < 2 ^ 64 := by
  unfold small
  rw [Bool.and_eq_true, decide_eq_true_iff, decide_eq_true_iff]
def mulD : D → D → Option O
  | .int i, .int j => if (small i || small j) = true then some (.sh (.int (i * j))) else none
  | .lst ds, .int n => if n ≤ 100000 ∧ -100000 ≤ n ∧ ds.length * n.toNat ≤ 100000 then some (.lst ((List.replicate n.toNat ds).flatten.map O.sh)) else none
  | _, _ => none
abbrev oMul : O → O → Option O := d2 mulD
theorem so_mul : SO K rMulX oMul := fun c hK o1 o2 e Q o h q => by
  unfold oMul d2 mulD at h
  split at h
  · rename_i i j h1 h2
    rw [toD_int h1, toD_int h2]
    split at h
    · rename_i hc
      cases h
      refine wr_mulI ?_ q
      rw [Bool.or_eq_true, small_iff, small_iff] at hc
      exact hc
    · cases h
  · rename_i ds n h1 h2
    rw [toD_int h2]
    split at h
    · rename_i hc
      cases h
      exact wr_mulL (nobx_all _) h1 hc.1 hc.2.1 hc.2.2 q
    · cases h
  · cases h
def addD : D → D → Option O
  | .int i, .int j => some (.sh (.int (i + j)))
  | .lst a, .lst b => if a.length + b.length ≤ 100000 then some (.lst ((a ++ b).map O.sh)) else none
  | .tup a, .tup b => if a.length + b.length ≤ 100000 then some (.sh (.tup (a ++ b))) else none
  | .str a, .str b => if a.length + b.length ≤ 100000 then some (.sh (.str (a ++ b))) else none
  | _, _ => none
abbrev oAdd : O → O → Option O := d2 addD
theorem so_add : SO K (rAddX K) oAdd := fun c hK o1 o2 e Q o h q => by
  subst hK
  unfold oAdd d2 addD at h
  split at h
  · rename_i i j h1 h2
    rw [toD_int h1, toD_int h2]
    cases h
    exact wr_addI q
  · rename_i a b h1 h2
    split at h
    · rename_i hc
      cases h
      exact wr_addL (nobx_all _) (nobx_all _) h1 h2 hc q
    · cases h
  · rename_i a b h1 h2
    split at h
    · rename_i hc
      cases h
      exact wr_addT (nobx_all _) (nobx_all _) h1 h2 hc q
    · cases h
  · rename_i a b h1 h2
    rw [toD_str h1, toD_str h2]
    split at h
    · rename_i hc
      cases h
      exact wr_addS hc q
    · cases h
  · cases h
def eqD (a b : D) : Option O := if (okD a && okD b) = true then some (.sh (.bl (D.eqv a b))) else none
def neD (a b : D) : Option O := if (okD a && okD b) = true then some (.sh (.bl (!D.eqv a b))) else none
abbrev oEq : O → O → Option O := d2 eqD
abbrev oNe : O → O → Option O := d2 neD
theorem so_eq : SO K (rEqD K) oEq := fun c hK o1 o2 e Q o h q => by
  subst hK
  unfold oEq d2 eqD at h
  split at h
  · rename_i hc
    rw [Bool.and_eq_true] at hc
    cases h
    exact wr_eqD (nobx_all _) (nobx_all _) hc.1 hc.2 q
  · cases h
theorem so_ne : SO K (rNeD K) oNe := fun c hK o1 o2 e Q o h q => by
  subst hK
  unfold oNe d2 neD at h
  split at h
  · rename_i hc
    rw [Bool.and_eq_true] at hc
    cases h
    exact wr_neD (nobx_all _) (nobx_all _) hc.1 hc.2 q
  · cases h
def inB (a : D) : D → Option Bool
  | .set ns => match a with
    | .int k => some (decide (k ∈ ns))
    | _ => none
  | .lst ds => match a, intsOf ds with
    | .int k, some ns => some (decide (k ∈ ns))
    | _, _ => if (okD a && okD (.lst ds)) = true then some (ds.any fun z => D.eqv z a) else none
  | .tup ds => match a, intsOf ds with
    | .int k, some ns => some (decide (k ∈ ns))
    | _, _ => none
  | _ => none
abbrev oIn : O → O → Option O := d2 fun a b => (inB a b).map fun x => .sh (.bl x)
abbrev oNi : O → O → Option O := d2 fun a b => (inB a b).map fun x => .sh (.bl (!x))
theorem inB_some {a b : D} {x : Bool} (h : inB a b = some x) : (∃ k ns, a = .int k ∧ (b = .set ns ∨ b = .lst (ns.map D.int) ∨ b = .tup (ns.map D.int)) ∧ x = decide (k ∈ ns)) ∨ ∃ ds, b = .lst ds ∧ okD a = true ∧ okD (.lst ds) = true ∧ x = ds.any fun z => D.eqv z a := by
  unfold inB at h
  split at h
  · split at h
    · cases h
      exact .inl ⟨_, _, rfl, .inl rfl, rfl⟩
    · cases h
  · split at h
    · rename_i hq
      cases h
      exact .inl ⟨_, _, rfl, .inr (.inl (by rw [intsOf_some hq])), rfl⟩
    · split at h
      · rename_i hc
        cases h
        rw [Bool.and_eq_true] at hc
        exact .inr ⟨_, rfl, hc.1, hc.2, rfl⟩
      · cases h
  · split at h
    · rename_i hq
      cases h
      exact .inl ⟨_, _, rfl, .inr (.inr (by rw [intsOf_some hq])), rfl⟩
    · cases h
  · cases h
theorem so_in : SO K (rInX K) oIn := fun c hK o1 o2 e Q o h q => by
  subst hK
  unfold oIn d2 at h
  dsimp only at h
  cases z : inB (toD o1) (toD o2) with
  | none => rw [z] at h; cases h
  | some x =>
    rw [z] at h
    cases h
    rcases inB_some z with ⟨k, ns, h1, h2, rfl⟩ | ⟨ds, h2, h3, h4, rfl⟩
    · rw [toD_int h1]
      rcases h2 with h2 | h2
      · rw [toD_set h2]
        exact wr_inS q
      · exact wr_inI (nobx_all _) h2 q
    · intro S H ts vs a b σ r Q' kk
      exact .inl (wr_inD (nobx_all _) (nobx_all _) h2 h3 (by rw [h2]; exact h4) q S H ts vs a b σ r Q' kk)
theorem so_ni : SO K (rNiX K) oNi := fun c hK o1 o2 e Q o h q => by
  subst hK
  unfold oNi d2 at h
  dsimp only at h
  cases z : inB (toD o1) (toD o2) with
  | none => rw [z] at h; cases h
  | some x =>
    rw [z] at h
    cases h
    rcases inB_some z with ⟨k, ns, h1, h2, rfl⟩ | ⟨ds, h2, h3, h4, rfl⟩
    · rw [toD_int h1]
      rcases h2 with h2 | h2
      · rw [toD_set h2]
        exact wr_niS q
      · exact wr_niI (nobx_all _) h2 q
    · intro S H ts vs a b σ r Q' kk
      exact .inl (wr_niD (nobx_all _) (nobx_all _) h2 h3 (by rw [h2]; exact h4) q S H ts vs a b σ r Q' kk)
def isND (neg : Bool) : D → D → Option O
  | a, .non => some (.sh (.bl (if neg then !isNon a else isNon a)))
  | _, _ => none
abbrev oIsN : O → O → Option O := d2 (isND false)
abbrev oNtN : O → O → Option O := d2 (isND true)
theorem so_isN : SO K rIsNX oIsN := fun c hK o1 o2 e Q o h q => by
  unfold oIsN d2 isND at h
  split at h
  · rename_i h2
    cases h
    rw [toD_non h2]
    exact wr_isN (nobx_all _) q
  · cases h
theorem so_ntN : SO K rNotNX oNtN := fun c hK o1 o2 e Q o h q => by
  unfold oNtN d2 isND at h
  split at h
  · rename_i h2
    cases h
    rw [toD_non h2]
    exact wr_notN (nobx_all _) q
  · cases h
def isBD (neg : Bool) : D → D → Option O
  | .bl a, .bl b => some (.sh (.bl (if neg then !decide (a = b) else decide (a = b))))
  | _, _ => none
abbrev oIsB : O → O → Option O := d2 (isBD false)
abbrev oNtB : O → O → Option O := d2 (isBD true)
theorem so_isB : SO K rIsB oIsB := fun c hK o1 o2 e Q o h q => by
  unfold oIsB d2 isBD at h
  split at h
  · rename_i a b h1 h2
    cases h
    rw [toD_bl h1, toD_bl h2]
    exact wr_isBl q
  · cases h
theorem so_ntB : SO K rNotB oNtB := fun c hK o1 o2 e Q o h q => by
  unfold oNtB d2 isBD at h
  split at h
  · rename_i a b h1 h2
    cases h
    rw [toD_bl h1, toD_bl h2]
    exact wr_notBl q
  · cases h
def ixD : D → D → Option O
  | d, .int i => match items d with
    | some ds => (atI ds i).map O.sh
    | none => none
  | _, _ => none
abbrev oIx : O → O → Option O := d2 ixD
theorem so_ix : SO K (rIx K) oIx := fun c hK o1 o2 e Q o h q => by
  subst hK
  unfold oIx d2 ixD at h
  split at h
  · rename_i i h2
    rw [toD_int h2]
    split at h
    · rename_i ds hd
      cases z : atI ds i with
      | none => rw [z] at h; cases h
      | some d =>
        rw [z] at h
        cases h
        exact wr_ix (nobx_all _) hd z q
    · cases h
  · cases h
def uNeg : O → Option O := fun a => match toD a with
  | .int i => some (.sh (.int (-i)))
  | _ => none
@[simp] theorem uNeg_int (i : Int) : uNeg (.sh (.int i)) = some (.sh (.int (-i))) := rfl
theorem su_neg : SU K (rU fun i => .int (-i)) uNeg := fun c hK o1 e Q o h q => by
  unfold uNeg at h
  split at h
  · rename_i i h1
    cases h
    rw [toD_int h1]
    exact wu_neg q
  · cases h
/-- a chain of two comparings -/
def eCh (op op' : O → O → Option O) (fa fb fc : FE) : FE := fun sl => (fa sl).bind fun a s => (fb s).bind fun b s2 => match op a b with
  | some (.sh (.bl true)) => (fc s2).bind fun c s3 => ofO (op' b c) s3
  | some (.sh (.bl false)) => .ok (.sh (.bl false)) s2
  | _ => .bad
theorem se_ch {f f' : Int → Int → Bool} {ta tb tc : TE} {fa fb fc : FE} (ha : SE K fx ta fa) (hb : SE K fx tb fb) (hc : SE K fx tc fc) :
    SE K fx (tChain (rI0 fun i j => .bl (f i j)) (rI0 fun i j => .bl (f' i j)) ta tb tc) (eCh (d2 (iD fun i j => .bl (f i j))) (d2 (iD fun i j => .bl (f' i j))) fa fb fc) := fun c hK hf sl g Q h =>
  we_chainI (ha c hK hf sl g _ (holds_mono (holds_bind h) fun a s h1 => hb c hK hf s g _ (holds_mono (holds_bind h1) fun b s2 h2 => by
    cases z : d2 (iD fun i j => D.bl (f i j)) a b with
    | none => rw [z] at h2; exact h2.elim
    | some o =>
      obtain ⟨i, j, rfl, rfl, rfl⟩ := iD_some z
      rw [z] at h2
      refine ⟨i, j, rfl, rfl, ?_⟩
      cases y : f i j with
      | false =>
        rw [y] at h2
        exact h2
      | true =>
        rw [y] at h2
        refine hc c hK hf s2 g _ (holds_mono (holds_bind h2) fun x s3 h3 => ?_)
        obtain ⟨o, e, q⟩ := ofO_holds h3
        obtain ⟨_, k, e1, rfl, rfl⟩ := iD_some e
        cases e1
        exact ⟨k, rfl, q⟩)))
end
end TX
end

section
namespace TX
open PySem PySem.Spec PyProof.Rows L2
/-! ### built-ins by values -/
def maxI : List Int → Int
  | [] => 0
  | n :: ns => ns.foldl (fun a b => if a < b then b else a) n
theorem foldl_max : ∀ (ns : List Int) (n : Int), n ≤ ns.foldl (fun a b => if a < b then b else a) n ∧ (∀ y ∈ ns, y ≤ ns.foldl (fun a b => if a < b then b else a) n) ∧ (ns.foldl (fun a b => if a < b then b else a) n = n ∨ ns.foldl (fun a b => if a < b then b else a) n ∈ ns)
  | [], n => ⟨Int.le_refl _, fun y hy => by simp at hy, .inl rfl⟩
  | m :: ns, n => by
    rw [List.foldl_cons]
    obtain ⟨a, b, c⟩ := foldl_max ns (if n < m then m else n)
    by_cases z : n < m
    · rw [if_pos z] at a b c ⊢
      refine ⟨by omega, fun y hy => ?_, ?_⟩
      · rcases List.mem_cons.mp hy with rfl | hy
        · exact a
        · exact b y hy
      · rcases c with c | c
        · exact .inr (by rw [c]; exact List.mem_cons_self)
        · exact .inr (List.mem_cons_of_mem _ c)
    · rw [if_neg z] at a b c ⊢
      refine ⟨a, fun y hy => ?_, ?_⟩
      · rcases List.mem_cons.mp hy with rfl | hy
        · omega
        · exact b y hy
      · rcases c with c | c
        · exact .inl c
        · exact .inr (List.mem_cons_of_mem _ c)
theorem maxI_spec {ns : List Int} (h : ns ≠ []) : maxI ns ∈ ns ∧ ∀ y ∈ ns, y ≤ maxI ns := by
  cases ns with
  | nil => exact absurd rfl h
  | cons n ns =>
    obtain ⟨a, b, c⟩ := foldl_max ns n
    refine ⟨?_, fun y hy => ?_⟩
    · rcases c with c | c
      · show List.foldl _ _ _ ∈ _
        rw [c]
        exact List.mem_cons_self
      · exact List.mem_cons_of_mem _ c
    · rcases List.mem_cons.mp hy with rfl | hy
      · exact a
      · exact b y hy
theorem maxI_uniq {ns : List Int} {m : Int} (h : m ∈ ns) (k : ∀ y ∈ ns, y ≤ m) : maxI ns = m := by
  obtain ⟨a, b⟩ := maxI_spec (ns := ns) (fun z => by rw [z] at h; simp at h)
  have := k _ a
  have := b _ h
  omega
def minI (ns : List Int) : Int := -(maxI (ns.map fun n => -n))
theorem minI_uniq {ns : List Int} {m : Int} (h : m ∈ ns) (k : ∀ y ∈ ns, m ≤ y) : minI ns = m := by
  unfold minI
  rw [maxI_uniq (m := -m) (List.mem_map.mpr ⟨m, h, rfl⟩) fun y hy => by
    obtain ⟨z, hz, rfl⟩ := List.mem_map.mp hy
    have := k z hz
    omega]
  omega
def maxP : List (Int × Int) → Int × Int
  | [] => (0, 0)
  | n :: ns => ns.foldl (fun a b => if lexGt b a = true then b else a) n
theorem lexGt_irr (x : Int × Int) : lexGt x x = false := by
  unfold lexGt
  rw [if_pos rfl]
  simp
theorem lexGt_tri {x y : Int × Int} (a : lexGt x y = false) (b : lexGt y x = false) : x = y := by
  obtain ⟨x1, x2⟩ := x
  obtain ⟨y1, y2⟩ := y
  unfold lexGt at a b
  dsimp only at a b
  by_cases e : x1 = y1
  · subst e
    rw [if_pos rfl] at a b
    have h1 := of_decide_eq_false a
    have h2 := of_decide_eq_false b
    rw [show x2 = y2 by omega]
  · rw [if_neg e] at a
    rw [if_neg (Ne.symm e)] at b
    have h1 := of_decide_eq_false a
    have h2 := of_decide_eq_false b
    omega
theorem foldl_maxP : ∀ (ns : List (Int × Int)) (n : Int × Int), lexGt n (ns.foldl (fun a b => if lexGt b a = true then b else a) n) = false ∧ (∀ y ∈ ns, lexGt y (ns.foldl (fun a b => if lexGt b a = true then b else a) n) = false) ∧ (ns.foldl (fun a b => if lexGt b a = true then b else a) n = n ∨ ns.foldl (fun a b => if lexGt b a = true then b else a) n ∈ ns)
  | [], n => ⟨lexGt_irr n, fun y hy => by simp at hy, .inl rfl⟩
  | m :: ns, n => by
    rw [List.foldl_cons]
    obtain ⟨a, b, c⟩ := foldl_maxP ns (if lexGt m n = true then m else n)
    by_cases z : lexGt m n = true
    · rw [if_pos z] at a b c ⊢
      refine ⟨lexGt_tr _ _ _ (lexGt_asym _ _ z) a, fun y hy => ?_, ?_⟩
      · rcases List.mem_cons.mp hy with rfl | hy
        · exact a
        · exact b y hy
      · rcases c with c | c
        · exact .inr (by rw [c]; exact List.mem_cons_self)
        · exact .inr (List.mem_cons_of_mem _ c)
    · rw [if_neg z] at a b c ⊢
      have z' : lexGt m n = false := by simpa using z
      refine ⟨a, fun y hy => ?_, ?_⟩
      · rcases List.mem_cons.mp hy with rfl | hy
        · exact lexGt_tr _ _ _ z' a
        · exact b y hy
      · rcases c with c | c
        · exact .inl c
        · exact .inr (List.mem_cons_of_mem _ c)
theorem maxP_spec {ns : List (Int × Int)} (h : ns ≠ []) : maxP ns ∈ ns ∧ ∀ y ∈ ns, lexGt y (maxP ns) = false := by
  cases ns with
  | nil => exact absurd rfl h
  | cons n ns =>
    obtain ⟨a, b, c⟩ := foldl_maxP ns n
    refine ⟨?_, fun y hy => ?_⟩
    · rcases c with c | c
      · show List.foldl _ _ _ ∈ _
        rw [c]
        exact List.mem_cons_self
      · exact List.mem_cons_of_mem _ c
    · rcases List.mem_cons.mp hy with rfl | hy
      · exact a
      · exact b y hy
theorem maxP_uniq {ns : List (Int × Int)} {m : Int × Int} (h : m ∈ ns) (k : ∀ y ∈ ns, lexGt y m = false) : maxP ns = m := by
  obtain ⟨a, b⟩ := maxP_spec (ns := ns) (fun z => by rw [z] at h; simp at h)
  exact lexGt_tri (k _ a) (b _ h)
/-- ascending -/
def sortI (ns : List Int) : List Int := ns.mergeSort (· ≤ ·)
theorem sortI_perm (ns : List Int) : (sortI ns).Perm ns := List.mergeSort_perm _ _
theorem sortI_sorted (ns : List Int) : (sortI ns).Pairwise (· ≤ ·) := by
  have := List.pairwise_mergeSort (le := fun a b : Int => decide (a ≤ b)) (fun a b c h1 h2 => by simp at *; omega) (fun a b => by simp; omega) ns
  exact this.imp fun h => of_decide_eq_true h
theorem sorted_uniq : ∀ {a b : List Int}, a.Perm b → a.Pairwise (· ≤ ·) → b.Pairwise (· ≤ ·) → a = b
  | [], b, p, _, _ => by rw [List.Perm.nil_eq p]
  | x :: a, [], p, _, _ => absurd p.symm.nil_eq (by simp)
  | x :: a, y :: b, p, ha, hb => by
    rw [List.pairwise_cons] at ha hb
    have e : x = y := by
      have h1 : x ∈ y :: b := p.subset List.mem_cons_self
      have h2 : y ∈ x :: a := p.symm.subset List.mem_cons_self
      rcases List.mem_cons.mp h1 with h1 | h1
      · exact h1
      · rcases List.mem_cons.mp h2 with h2 | h2
        · exact h2.symm
        · have := ha.1 y h2
          have := hb.1 x h1
          omega
    subst e
    rw [sorted_uniq (List.Perm.cons_inv p) ha.2 hb.2]
def sortP (ns : List (Int × Int)) : List (Int × Int) := ns.mergeSort fun a b => !SrtO.lexB b a
theorem sortP_perm (ns : List (Int × Int)) : (sortP ns).Perm ns := List.mergeSort_perm _ _
theorem lexB_tr {a b c : Int × Int} (h1 : SrtO.lexB b a = false) (h2 : SrtO.lexB c b = false) : SrtO.lexB c a = false := by
  obtain ⟨a1, a2⟩ := a
  obtain ⟨b1, b2⟩ := b
  obtain ⟨c1, c2⟩ := c
  unfold SrtO.lexB at *
  dsimp only at *
  by_cases e : b1 = a1
  · subst e
    rw [if_pos rfl] at h1
    by_cases e2 : c1 = b1
    · subst e2
      rw [if_pos rfl] at h2 ⊢
      have := of_decide_eq_false h1
      have := of_decide_eq_false h2
      exact decide_eq_false (by omega)
    · rw [if_neg e2] at h2 ⊢
      exact h2
  · rw [if_neg e] at h1
    have q1 := of_decide_eq_false h1
    by_cases e2 : c1 = b1
    · subst e2
      rw [if_neg e]
      exact h1
    · rw [if_neg e2] at h2
      have q2 := of_decide_eq_false h2
      rw [if_neg (by omega)]
      exact decide_eq_false (by omega)
theorem lexB_tot (a b : Int × Int) : SrtO.lexB b a = false ∨ SrtO.lexB a b = false := by
  obtain ⟨a1, a2⟩ := a
  obtain ⟨b1, b2⟩ := b
  unfold SrtO.lexB
  dsimp only
  by_cases e : b1 = a1
  · subst e
    rw [if_pos rfl, if_pos rfl]
    by_cases z : b2 < a2
    · exact .inr (decide_eq_false (by omega))
    · exact .inl (decide_eq_false z)
  · rw [if_neg e, if_neg (Ne.symm e)]
    by_cases z : b1 < a1
    · exact .inr (decide_eq_false (by omega))
    · exact .inl (decide_eq_false z)
theorem lexB_anti {a b : Int × Int} (h1 : SrtO.lexB b a = false) (h2 : SrtO.lexB a b = false) : a = b := by
  obtain ⟨a1, a2⟩ := a
  obtain ⟨b1, b2⟩ := b
  unfold SrtO.lexB at *
  dsimp only at *
  by_cases e : b1 = a1
  · subst e
    rw [if_pos rfl] at h1 h2
    have := of_decide_eq_false h1
    have := of_decide_eq_false h2
    rw [show a2 = b2 by omega]
  · rw [if_neg e] at h1
    rw [if_neg (Ne.symm e)] at h2
    have := of_decide_eq_false h1
    have := of_decide_eq_false h2
    omega
theorem sortP_sorted (ns : List (Int × Int)) : (sortP ns).Pairwise fun a b => SrtO.lexB b a = false := by
  have := List.pairwise_mergeSort (le := fun a b : Int × Int => !SrtO.lexB b a) (fun a b c h1 h2 => by
    simp only [Bool.not_eq_true'] at *
    exact lexB_tr h1 h2) (fun a b => by
    rw [Bool.or_eq_true, Bool.not_eq_true', Bool.not_eq_true']
    exact lexB_tot a b) ns
  exact this.imp fun h => by simpa using h
theorem sortedP_uniq : ∀ {a b : List (Int × Int)}, a.Perm b → a.Pairwise (fun a b => SrtO.lexB b a = false) → b.Pairwise (fun a b => SrtO.lexB b a = false) → a = b
  | [], b, p, _, _ => by rw [List.Perm.nil_eq p]
  | x :: a, [], p, _, _ => absurd p.symm.nil_eq (by simp)
  | x :: a, y :: b, p, ha, hb => by
    rw [List.pairwise_cons] at ha hb
    have e : x = y := by
      have h1 : x ∈ y :: b := p.subset List.mem_cons_self
      have h2 : y ∈ x :: a := p.symm.subset List.mem_cons_self
      rcases List.mem_cons.mp h1 with h1 | h1
      · exact h1
      · rcases List.mem_cons.mp h2 with h2 | h2
        · exact h2.symm
        · exact lexB_anti (ha.1 y h2) (hb.1 x h1)
    subst e
    rw [sortedP_uniq (List.Perm.cons_inv p) ha.2 hb.2]
section
variable {K : PySem.W.Frag} {fx : List Nat}
def c1 (f : D → Option O) : List O → Option O
  | [o] => f (toD o)
  | _ => none
@[simp] theorem c1_one (f : D → Option O) (o : O) : c1 f [o] = f (toD o) := rfl
theorem c1_some {f : D → Option O} {os : List O} {o : O} (h : c1 f os = some o) : ∃ a, os = [a] ∧ f (toD a) = some o := by
  unfold c1 at h
  split at h
  · exact ⟨_, rfl, h⟩
  · cases h
def lenD (d : D) : Option O := match items d with
  | some ds => some (.sh (.int (ds.length : Nat)))
  | none => none
theorem sc_len : SC K (rLenX K) (c1 lenD) := fun c hK os e Q o h q => by
  subst hK
  obtain ⟨a, rfl, _⟩ := c1_some h
  simp only [c1_one] at h
  unfold lenD at h
  split at h
  · rename_i ds hd
    cases h
    exact wc_len (nobx_all _) hd q
  · cases h
def absD : D → Option O
  | .int i => some (.sh (.int (if i < 0 then -i else i)))
  | _ => none
theorem sc_abs : SC K rAbs1 (c1 absD) := fun c hK os e Q o h q => by
  obtain ⟨a, rfl, _⟩ := c1_some h
  simp only [c1_one] at h
  unfold absD at h
  split at h
  · rename_i i hi
    cases h
    rw [toD_int hi]
    exact wc_abs q
  · cases h
def intD : D → Option O
  | .int i => some (.sh (.int i))
  | .bl b => some (.sh (.int (if b then 1 else 0)))
  | _ => none
theorem sc_int : SC K rInt1 (c1 intD) := fun c hK os e Q o h q => by
  obtain ⟨a, rfl, _⟩ := c1_some h
  simp only [c1_one] at h
  unfold intD at h
  split at h
  · rename_i i hi
    cases h
    rw [toD_int hi]
    exact wc_intI q
  · rename_i i hi
    cases h
    rw [toD_bl hi]
    exact wc_intB q
  · cases h
def strD : D → Option O
  | .int i => if i.natAbs.log2 < 1920 then some (.sh (.str (toString i))) else none
  | _ => none
theorem sc_str : SC K rStrI (c1 strD) := fun c hK os e Q o h q => by
  obtain ⟨a, rfl, _⟩ := c1_some h
  simp only [c1_one] at h
  unfold strD at h
  split at h
  · rename_i i hi
    split at h
    · rename_i hc
      cases h
      rw [toD_int hi]
      exact wc_strI hc q
    · cases h
  · cases h
def c2I (f : Int → Int → Int) : List O → Option O
  | [a, b] => match toD a, toD b with
    | .int i, .int j => some (.sh (.int (f i j)))
    | _, _ => none
  | _ => none
@[simp] theorem c2I_int (f : Int → Int → Int) (i j : Int) : c2I f [.sh (.int i), .sh (.int j)] = some (.sh (.int (f i j))) := rfl
theorem c2I_some {f : Int → Int → Int} {os : List O} {o : O} (h : c2I f os = some o) : ∃ i j, os = [.sh (.int i), .sh (.int j)] ∧ o = .sh (.int (f i j)) := by
  unfold c2I at h
  split at h
  · split at h
    · rename_i i j h1 h2
      cases h
      exact ⟨i, j, by rw [toD_int h1, toD_int h2], rfl⟩
    · cases h
  · cases h
abbrev cMin2 : List O → Option O := c2I fun i j => if j < i then j else i
abbrev cMax2 : List O → Option O := c2I fun i j => if j > i then j else i
theorem sc_min2 : SC K rMn2 cMin2 := fun c hK os e Q o h q => by
  obtain ⟨i, j, rfl, rfl⟩ := c2I_some h
  exact wc_min2 q
theorem sc_max2 : SC K rMx2 cMax2 := fun c hK os e Q o h q => by
  obtain ⟨i, j, rfl, rfl⟩ := c2I_some h
  exact wc_max2 q
def seq2 : D → Option (List D)
  | .lst ds => some ds
  | .tup ds => some ds
  | _ => none
theorem seq2_some {d : D} {ds : List D} (h : seq2 d = some ds) : d = .lst ds ∨ d = .tup ds := by
  unfold seq2 at h
  split at h
  · cases h; exact .inl rfl
  · cases h; exact .inr rfl
  · cases h
def maxD (d : D) : Option O := match seq2 d with
  | some ds => match intsOf ds with
    | some ns => if ns ≠ [] then some (.sh (.int (maxI ns))) else none
    | none => match d, pairsOf ds with
      | .lst _, some ps => if ps ≠ [] then some (.sh (pairI (maxP ps))) else none
      | _, _ => none
  | none => none
theorem sc_max : SC K (rMaxX K) (c1 maxD) := fun c hK os e Q o h q => by
  subst hK
  obtain ⟨a, rfl, _⟩ := c1_some h
  simp only [c1_one] at h
  unfold maxD at h
  split at h
  · rename_i ds hd
    split at h
    · rename_i ns hn
      split at h
      · rename_i hz
        cases h
        have e := intsOf_some hn
        subst e
        refine wc_maxI (nobx_all _) (seq2_some hd) (List.length_pos_iff.mpr hz) fun m h1 h2 => ?_
        rw [← maxI_uniq h1 h2]
        exact q
      · cases h
    · split at h
      · rename_i ls ps hl hp
        split at h
        · rename_i hz
          cases h
          have e := pairsOf_some hp
          subst e
          refine wc_maxP (ps := ps) (nobx_all _) ?_ (List.length_pos_iff.mpr hz) fun m h1 h2 => ?_
          · rcases seq2_some hd with z | z
            · exact z
            · rw [hl] at z; cases z
          · rw [← maxP_uniq h1 h2]
            exact q
        · cases h
      · cases h
  · cases h
def minD : D → Option O
  | .tup ds => match intsOf ds with
    | some ns => if ns ≠ [] then some (.sh (.int (minI ns))) else none
    | none => none
  | _ => none
theorem sc_minT : SC K (rMinT K) (c1 minD) := fun c hK os e Q o h q => by
  subst hK
  obtain ⟨a, rfl, _⟩ := c1_some h
  simp only [c1_one] at h
  unfold minD at h
  split at h
  · rename_i ds hd
    split at h
    · rename_i ns hn
      split at h
      · rename_i hz
        cases h
        rw [intsOf_some hn] at hd
        refine wc_minT (nobx_all _) hd (List.length_pos_iff.mpr hz) fun m h1 h2 => ?_
        rw [← minI_uniq h1 h2]
        exact q
      · cases h
    · cases h
  · cases h
def sumD : D → Option O
  | .lst ds => match intsOf ds with
    | some ns => some (.sh (.int ns.sum))
    | none => none
  | _ => none
theorem sc_sum : SC K (rSum K) (c1 sumD) := fun c hK os e Q o h q => by
  subst hK
  obtain ⟨a, rfl, _⟩ := c1_some h
  simp only [c1_one] at h
  unfold sumD at h
  split at h
  · rename_i ds hd
    split at h
    · rename_i ns hn
      cases h
      rw [intsOf_some hn] at hd
      exact wc_sum (nobx_all _) hd q
    · cases h
  · cases h
def allD : D → Option O
  | .lst ds => match boolsOf ds with
    | some ns => some (.sh (.bl (ns.all id)))
    | none => none
  | _ => none
theorem sc_all : SC K (rAll K) (c1 allD) := fun c hK os e Q o h q => by
  subst hK
  obtain ⟨a, rfl, _⟩ := c1_some h
  simp only [c1_one] at h
  unfold allD at h
  split at h
  · rename_i ds hd
    split at h
    · rename_i ns hn
      cases h
      rw [boolsOf_some hn] at hd
      exact wc_all (nobx_all _) hd q
    · cases h
  · cases h
def anyD : D → Option O
  | .lst ds => match boolsOf ds with
    | some ns => some (.sh (.bl (ns.any id)))
    | none => none
  | _ => none
theorem sc_any : SC K (rAny K) (c1 anyD) := fun c hK os e Q o h q => by
  subst hK
  obtain ⟨a, rfl, _⟩ := c1_some h
  simp only [c1_one] at h
  unfold anyD at h
  split at h
  · rename_i ds hd
    split at h
    · rename_i ns hn
      cases h
      rw [boolsOf_some hn] at hd
      exact wc_any (nobx_all _) hd q
    · cases h
  · cases h
def listD (d : D) : Option O := (items d).map fun ds => .lst (ds.map O.sh)
def tupleD (d : D) : Option O := (items d).map fun ds => .sh (.tup ds)
theorem sc_list : SC K (rListOf K) (c1 listD) := fun c hK os e Q o h q => by
  subst hK
  obtain ⟨a, rfl, _⟩ := c1_some h
  simp only [c1_one] at h
  unfold listD at h
  cases z : items (toD a) with
  | none => rw [z] at h; cases h
  | some ds =>
    rw [z] at h
    cases h
    exact wc_list (nobx_all _) z q
theorem sc_tuple : SC K (rTupOf K) (c1 tupleD) := fun c hK os e Q o h q => by
  subst hK
  obtain ⟨a, rfl, _⟩ := c1_some h
  simp only [c1_one] at h
  unfold tupleD at h
  cases z : items (toD a) with
  | none => rw [z] at h; cases h
  | some ds =>
    rw [z] at h
    cases h
    exact wc_tuple (nobx_all _) z q
def setD (d : D) : Option O := match seq2 d with
  | some ds => match intsOf ds with
    | some ns => if ns.length ≤ 1000 then some (.sh (.set ns)) else none
    | none => none
  | none => none
theorem sc_set : SC K (rSetX K) (c1 setD) := fun c hK os e Q o h q => by
  subst hK
  obtain ⟨a, rfl, _⟩ := c1_some h
  simp only [c1_one] at h
  unfold setD at h
  split at h
  · rename_i ds hd
    split at h
    · rename_i ns hn
      split at h
      · rename_i hz
        cases h
        have e := intsOf_some hn
        subst e
        exact wc_set (nobx_all _) (seq2_some hd) hz q
      · cases h
    · cases h
  · cases h
def sortedD (d : D) : Option O := match seq2 d with
  | some ds => match intsOf ds with
    | some ns => some (.lst (((sortI ns).map D.int).map O.sh))
    | none => none
  | none => none
theorem sc_sorted : SC K (rSortedA K) (c1 sortedD) := fun c hK os e Q o h q => by
  subst hK
  obtain ⟨a, rfl, _⟩ := c1_some h
  simp only [c1_one] at h
  unfold sortedD at h
  split at h
  · rename_i ds hd
    split at h
    · rename_i ns hn
      cases h
      have e := intsOf_some hn
      subst e
      refine wc_sortedA (nobx_all _) (seq2_some hd) fun ns' h1 h2 => ?_
      rw [sorted_uniq (h1.trans (sortI_perm ns).symm) h2 (sortI_sorted ns)]
      exact q
    · cases h
  · cases h
def sortedPD : D → Option O
  | .lst ds => match pairsOf ds with
    | some ps => some (.lst (((sortP ps).map pairI).map O.sh))
    | none => none
  | _ => none
theorem sc_sortedP : SC K (rSortedPF K) (c1 sortedPD) := fun c hK os e Q o h q => by
  subst hK
  obtain ⟨a, rfl, _⟩ := c1_some h
  simp only [c1_one] at h
  unfold sortedPD at h
  split at h
  · rename_i ds hd
    split at h
    · rename_i ns hn
      cases h
      rw [pairsOf_some hn] at hd
      refine wc_sortedP (nobx_all _) hd fun ns' h1 h2 => ?_
      rw [sortedP_uniq (h1.trans (sortP_perm ns).symm) h2 (sortP_sorted ns)]
      exact q
    · cases h
  · cases h
def reprOk (d : D) : Prop := noset d = true ∧ (toPy d).showable = true ∧ (toPy d).hasDict = false ∧ (toPy d).depth ≤ 50 ∧ (reprD d).length ≤ sizeLine
instance (d : D) : Decidable (reprOk d) := by unfold reprOk; infer_instance
def reprF (d : D) : Option O := if reprOk d then some (.sh (.str (reprD d))) else none
theorem sc_repr : SC K (rRepr K) (c1 reprF) := fun c hK os e Q o h q => by
  subst hK
  obtain ⟨a, rfl, _⟩ := c1_some h
  simp only [c1_one] at h
  unfold reprF at h
  split at h
  · rename_i hz
    cases h
    exact wc_repr (nobx_all _) hz.1 hz.2.1 hz.2.2.1 hz.2.2.2.1 hz.2.2.2.2 q
  · cases h
/-! ### isinstance -/
def eIsi (n : String) (fe : FE) : FE := fun sl => (fe sl).bind fun o s => .ok (.sh (.bl (isiT (tyD (toD o)) n))) s
theorem se_isi {n : String} {te : TE} {fe : FE} (f : fiveT n = true) (he : SE K fx te fe) : SE K fx (tCB (rIsi K) (tCons te (tCons (tC (.ty n)) tNil))) (eIsi n fe) := fun c hK hf sl g Q h => by
  subst hK
  exact we_isi (he c rfl hf sl g _ (holds_mono (holds_bind h) fun o s h1 => ⟨nobx_all _, h1⟩)) f
def eIsi2 (n m : String) (fe : FE) : FE := fun sl => (fe sl).bind fun o s => .ok (.sh (.bl (isiT (tyD (toD o)) n || isiT (tyD (toD o)) m))) s
theorem se_isi2 {n m : String} {te : TE} {fe : FE} (f : fiveT n = true) (f2 : fiveT m = true) (he : SE K fx te fe) : SE K fx (tCB (rIsiT K) (tCons te (tCons (tTup (tCons (tC (.ty n)) (tCons (tC (.ty m)) tNil))) tNil))) (eIsi2 n m fe) := fun c hK hf sl g Q h => by
  subst hK
  exact we_isi2 (he c rfl hf sl g _ (holds_mono (holds_bind h) fun o s h1 => ⟨nobx_all _, h1⟩)) f f2
/-! ### ranges, slices -/
def inR (j : Int) : Bool := decide (-(2 ^ 62) ≤ j) && decide (j < 2 ^ 62)
theorem inR_of {j : Int} (h1 : -(2 ^ 62) ≤ j) (h2 : j < 2 ^ 62) : inR j = true := by
  unfold inR
  rw [decide_eq_true h1, decide_eq_true h2]
  rfl
theorem inR_iff {j : Int} (h : inR j = true) : -(2 ^ 62) ≤ j ∧ j < 2 ^ 62 := by
  unfold inR at h
  rw [Bool.and_eq_true] at h
  exact ⟨of_decide_eq_true h.1, of_decide_eq_true h.2⟩
def iR1 (fe : FA) : FI := fun sl => (fe sl).bind fun os s => match os with
  | [.sh (.int j)] => if inR j = true then .ok (rngD 0 j.toNat) s else .bad
  | _ => .bad
theorem si_r1 {ta : TA} {fa : FA} (ha : SB K fx ta fa) : SI K fx (iRng1 ta) (iR1 fa) := fun c hK hf sl g Q h => wi_rng1 (ha c hK hf sl g _ (holds_mono (holds_bind h) fun os s h1 => by
  split at h1
  · rename_i j
    split at h1
    · rename_i hj
      exact ⟨j, rfl, (inR_iff hj).1, (inR_iff hj).2, h1⟩
    · exact h1.elim
  · exact h1.elim))
def iR2 (fe : FA) : FI := fun sl => (fe sl).bind fun os s => match os with
  | [.sh (.int i), .sh (.int j)] => if inR i = true ∧ inR j = true then .ok (rngD i (j - i).toNat) s else .bad
  | _ => .bad
theorem si_r2 {ta : TA} {fa : FA} (ha : SB K fx ta fa) : SI K fx (iRng2 ta) (iR2 fa) := fun c hK hf sl g Q h => wi_rng2 (ha c hK hf sl g _ (holds_mono (holds_bind h) fun os s h1 => by
  split at h1
  · rename_i i j
    split at h1
    · rename_i hj
      exact ⟨i, j, rfl, ⟨(inR_iff hj.1).1, (inR_iff hj.1).2, (inR_iff hj.2).1, (inR_iff hj.2).2⟩, h1⟩
    · exact h1.elim
  · exact h1.elim))
def iS (fe : FE) : FI := fun sl => (fe sl).bind fun o s => ofO (seq2 (toD o)) s
theorem si_seq {te : TE} {fe : FE} (he : SE K fx te fe) : SI K fx (iSeq K te) (iS fe) := fun c hK hf sl g Q h => by
  subst hK
  exact wi_seq (he c rfl hf sl g _ (holds_mono (holds_bind h) fun o s h1 => by
    obtain ⟨ds, e, q⟩ := ofO_holds h1
    exact ⟨nobx_all _, ds, seq2_some e, q⟩))
def zipB : List O → Option (List D)
  | [a, b] => match toD a, toD b with
    | .lst x, .lst y => some (zipD x y)
    | .tup x, .tup y => some (zipD x y)
    | _, _ => none
  | _ => none
def iZ (fa : FA) : FI := fun sl => (fa sl).bind fun os s => ofO (zipB os) s
theorem si_zip {ta : TA} {fa : FA} (ha : SB K fx ta fa) : SI K fx (RZ.iZipA K ta) (iZ fa) := fun c hK hf sl g Q h => by
  subst hK
  refine wi_zip (ha c rfl hf sl g _ (holds_mono (holds_bind h) fun os s h1 => ?_))
  obtain ⟨ds, e, q⟩ := ofO_holds h1
  unfold zipB at e
  split at e
  · rename_i a b
    split at e
    · rename_i x y h1 h2
      cases e
      exact ⟨a, b, rfl, nobx_all _, nobx_all _, x, y, .inl ⟨h1, h2⟩, q⟩
    · rename_i x y h1 h2
      cases e
      exact ⟨a, b, rfl, nobx_all _, nobx_all _, x, y, .inr ⟨h1, h2⟩, q⟩
    · cases e
  · cases e
def enumB : List O → Option (List D)
  | [a] => (seq2 (toD a)).map (enumD 0)
  | _ => none
def iEn (fa : FA) : FI := fun sl => (fa sl).bind fun os s => ofO (enumB os) s
theorem si_enum {ta : TA} {fa : FA} (ha : SB K fx ta fa) : SI K fx (iEnumA K ta) (iEn fa) := fun c hK hf sl g Q h => by
  subst hK
  refine wi_enumA (ha c rfl hf sl g _ (holds_mono (holds_bind h) fun os s h1 => ?_))
  obtain ⟨ds, e, q⟩ := ofO_holds h1
  unfold enumB at e
  split at e
  · rename_i a
    cases z : seq2 (toD a) with
    | none => rw [z] at e; cases e
    | some d1 =>
      rw [z] at e
      cases e
      exact ⟨a, rfl, nobx_all _, d1, seq2_some z, q⟩
  · cases e
def small5 (i : Int) : Bool := decide (-10000 ≤ i) && decide (i ≤ 10000)
theorem small5_of {i : Int} (h1 : -10000 ≤ i) (h2 : i ≤ 10000) : small5 i = true := by
  unfold small5
  rw [decide_eq_true h1, decide_eq_true h2]
  rfl
theorem small5_iff {i : Int} (h : small5 i = true) : -10000 ≤ i ∧ i ≤ 10000 := by
  unfold small5 at h
  rw [Bool.and_eq_true] at h
  exact ⟨of_decide_eq_true h.1, of_decide_eq_true h.2⟩
/-- list(range(n)) -/
def eLr1 (fe : FE) : FE := fun sl => (fe sl).bind fun o s => match asI o with
  | some n => if small5 n = true then .ok (.lst ((rngD 0 n.toNat).map O.sh)) s else .bad
  | none => .bad
theorem se_lr1 {te : TE} {fe : FE} (he : SE K fx te fe) : SE K fx (tLstRg (tRg1 te)) (eLr1 fe) := fun c hK hf sl g Q h => we_lrg1 (he c hK hf sl g _ (holds_mono (holds_bind h) fun o s h1 => by
  split at h1
  · rename_i n hn
    split at h1
    · rename_i hs
      exact ⟨n, asI_some hn, (small5_iff hs).2, (small5_iff hs).1, h1⟩
    · exact h1.elim
  · exact h1.elim))
def eLr2 (fa fb : FE) : FE := fun sl => (fa sl).bind fun a s => (fb s).bind fun b s2 => match asI a, asI b with
  | some i, some j => if small5 i = true ∧ small5 j = true then .ok (.lst ((rngD i (j - i).toNat).map O.sh)) s2 else .bad
  | _, _ => .bad
theorem se_lr2 {ta tb : TE} {fa fb : FE} (ha : SE K fx ta fa) (hb : SE K fx tb fb) : SE K fx (tLstRg (tRg2 ta tb)) (eLr2 fa fb) := fun c hK hf sl g Q h => we_lrg2 (ha c hK hf sl g _ (holds_mono (holds_bind h) fun a s h1 => hb c hK hf s g _ (holds_mono (holds_bind h1) fun b s2 h2 => by
  split at h2
  · rename_i i j hi hj
    split at h2
    · rename_i hs
      have a := small5_iff hs.1
      have b := small5_iff hs.2
      exact ⟨i, j, asI_some hi, asI_some hj, ⟨by omega, by omega, by omega, by omega⟩, h2⟩
    · exact h2.elim
  · exact h2.elim)))
def eTr2 (fa fb : FE) : FE := fun sl => (fa sl).bind fun a s => (fb s).bind fun b s2 => match asI a, asI b with
  | some i, some j => if small5 i = true ∧ small5 j = true then .ok (.sh (.tup (rngD i (j - i).toNat))) s2 else .bad
  | _, _ => .bad
theorem se_tr2 {ta tb : TE} {fa fb : FE} (ha : SE K fx ta fa) (hb : SE K fx tb fb) : SE K fx (tTupRgF (tRg2 ta tb)) (eTr2 fa fb) := fun c hK hf sl g Q h => we_trg2 (ha c hK hf sl g _ (holds_mono (holds_bind h) fun a s h1 => hb c hK hf s g _ (holds_mono (holds_bind h1) fun b s2 h2 => by
  split at h2
  · rename_i i j hi hj
    split at h2
    · rename_i hs
      have a := small5_iff hs.1
      have b := small5_iff hs.2
      exact ⟨i, j, asI_some hi, asI_some hj, ⟨by omega, by omega, by omega, by omega⟩, h2⟩
    · exact h2.elim
  · exact h2.elim)))
/-- list(range(a, b, -1)) -/
def eLdn (fa : FA) : FE := fun sl => (fa sl).bind fun os s => match os with
  | [.sh (.int i), .sh (.int j), .sh (.int (-1))] => if small5 i = true ∧ small5 j = true then .ok (.lst (((dnI i j).map D.int).map O.sh)) s else .bad
  | _ => .bad
theorem se_ldn {ta : TA} {fa : FA} (ha : SB K fx ta fa) : SE K fx (tLstDn ta) (eLdn fa) := fun c hK hf sl g Q h => we_ldn (ha c hK hf sl g _ (holds_mono (holds_bind h) fun os s h1 => by
  split at h1
  · rename_i i j
    split at h1
    · rename_i hs
      have a := small5_iff hs.1
      have b := small5_iff hs.2
      exact ⟨i, j, rfl, ⟨by omega, by omega, by omega, by omega⟩, h1⟩
    · exact h1.elim
  · exact h1.elim))
def cutO (lo hi : Option Int) : D → Option O
  | .lst ds => some (.lst ((cutD ds lo hi).map O.sh))
  | .tup ds => some (.sh (.tup (cutD ds lo hi)))
  | _ => none
def eSl (fe : FE) (fl fh : FP) : FE := fun sl => (fe sl).bind fun o s => (fl s).bind fun lo s1 => (fh s1).bind fun hi s2 => ofO (cutO lo hi (toD o)) s2
theorem se_sl {te : TE} {tl th : TO} {fe : FE} {fl fh : FP} (he : SE K fx te fe) (hl : SP K fx tl fl) (hh : SP K fx th fh) : SE K fx (tSl (rSlX K) te tl th) (eSl fe fl fh) := fun c hK hf sl g Q h => by
  subst hK
  refine we_sl (he c rfl hf sl g _ (holds_mono (holds_bind h) fun o s h1 => hl c rfl hf s g _ (holds_mono (holds_bind h1) fun lo s1 h2 => hh c rfl hf s1 g _ (holds_mono (holds_bind h2) fun hi s2 h3 => ⟨nobx_all _, ?_⟩))))
  obtain ⟨r, e, q⟩ := ofO_holds h3
  unfold cutO at e
  split at e
  · rename_i ds hd
    cases e
    exact .inl ⟨ds, hd, q⟩
  · rename_i ds hd
    cases e
    exact .inr ⟨ds, hd, q⟩
  · cases e
/-- xs[a:b:c] of a list -/
def eStep (fe : FE) (fl fh fz : FP) : FE := fun sl => (fe sl).bind fun o s => (fl s).bind fun lo s1 => (fh s1).bind fun hi s2 => (fz s2).bind fun st s3 => match toD o with
  | .lst ds => if st ≠ some 0 then .ok (.lst ((pickL (stepIx lo hi st ds.length) ds).map O.sh)) s3 else .bad
  | _ => .bad
theorem se_step {te : TE} {tl th tz : TO} {fe : FE} {fl fh fz : FP} (he : SE K fx te fe) (hl : SP K fx tl fl) (hh : SP K fx th fh) (hz : SP K fx tz fz) : SE K fx (tStepL K te tl th tz) (eStep fe fl fh fz) := fun c hK hf sl g Q h => by
  subst hK
  refine we_step (he c rfl hf sl g _ (holds_mono (holds_bind h) fun o s h1 => hl c rfl hf s g _ (holds_mono (holds_bind h1) fun lo s1 h2 => hh c rfl hf s1 g _ (holds_mono (holds_bind h2) fun hi s2 h3 => hz c rfl hf s2 g _ (holds_mono (holds_bind h3) fun st s3 h4 => ?_)))))
  split at h4
  · rename_i ds hd
    split at h4
    · rename_i h0
      exact ⟨nobx_all _, h0, ds, hd, h4⟩
    · exact h4.elim
  · exact h4.elim
/-- t[::-1] of a tuple -/
def eRevT (fe fz : FE) : FE := fun sl => (fe sl).bind fun o s => (fz s).bind fun z s1 => match toD o, z with
  | .tup ds, .sh (.int (-1)) => .ok (.sh (.tup ds.reverse)) s1
  | _, _ => .bad
theorem se_revT {te tz : TE} {fe fz : FE} (he : SE K fx te fe) (hz : SE K fx tz fz) : SE K fx (tRevT K te tz) (eRevT fe fz) := fun c hK hf sl g Q h => by
  subst hK
  refine we_revT (he c rfl hf sl g _ (holds_mono (holds_bind h) fun o s h1 => hz c rfl hf s g _ (holds_mono (holds_bind h1) fun z s1 h2 => ?_)))
  split at h2
  · rename_i ds hd
    exact ⟨rfl, nobx_all _, ds, hd, h2⟩
  · exact h2.elim
/-- xs[::-1], a list or a tuple -/
def eEi (f1 f2 : FE) : FE := fun sl => match f1 sl with
  | .ok o s => .ok o s
  | _ => f2 sl
theorem se_ei {t1 t2 : TE} {f1 f2 : FE} (h1 : SE K fx t1 f1) (h2 : SE K fx t2 f2) : SE K fx (tEither t1 t2) (eEi f1 f2) := fun c hK hf sl g Q h => by
  unfold eEi at h
  split at h
  · rename_i o s e
    exact we_either1 (h1 c hK hf sl g Q (by rw [e]; exact h))
  · exact we_either2 (h2 c hK hf sl g Q h)
/-! ### methods -/
def eIdx (fe : FE) (fa : FA) : FE := fun sl => (fe sl).bind fun o s => (fa s).bind fun os s1 => match seq2 (toD o), os with
  | some ds, [.sh (.int k)] => match intsOf ds with
    | some ns => if k ∈ ns then .ok (.sh (.int (ns.idxOf k : Nat))) s1 else .bad
    | none => .bad
  | _, _ => .bad
theorem se_idx {te : TE} {ta : TA} {fe : FE} {fa : FA} (he : SE K fx te fe) (ha : SB K fx ta fa) : SE K fx (tEither (tBM K "list" (rIndexI K) te ta) (tBMT (rIndexT K) te ta)) (eIdx fe fa) := fun c hK hf sl g Q h => by
  subst hK
  cases hr : fe sl with
  | bad => unfold eIdx at h; rw [hr] at h; exact h.elim
  | ex x s => unfold eIdx at h; rw [hr] at h; exact h.elim
  | ok o s =>
    have h1 : (fa s).holds fun os s1 => ∃ (ns : List Int) (k : Int), seq2 (toD o) = some (ns.map D.int) ∧ os = [.sh (.int k)] ∧ k ∈ ns ∧ Q (.sh (.int (ns.idxOf k : Nat))) ⟨s1, g⟩ := by
      unfold eIdx at h
      rw [hr] at h
      refine holds_mono (holds_bind h) fun os s1 h2 => ?_
      split at h2
      · rename_i ds k hd
        split at h2
        · rename_i ns hn
          split at h2
          · rename_i hk
            have e := intsOf_some hn
            subst e
            exact ⟨ns, k, hd, rfl, hk, h2⟩
          · exact h2.elim
        · exact h2.elim
      · exact h2.elim
    cases hd : seq2 (toD o) with
    | none =>
      cases hq : fa s with
      | bad => rw [hq] at h1; exact h1.elim
      | ex x s => rw [hq] at h1; exact h1.elim
      | ok os s1 =>
        rw [hq] at h1
        obtain ⟨ns, k, z, _⟩ := h1
        rw [hd] at z
        cases z
    | some ds =>
      have hn : ∃ ns : List Int, ds = ns.map D.int := by
        cases hq : fa s with
        | bad => rw [hq] at h1; exact h1.elim
        | ex x s => rw [hq] at h1; exact h1.elim
        | ok os s1 =>
          rw [hq] at h1
          obtain ⟨ns, k, z, _⟩ := h1
          rw [hd] at z
          cases z
          exact ⟨ns, rfl⟩
      obtain ⟨ns, rfl⟩ := hn
      have h3 : (fa s).holds fun os s1 => ∃ k : Int, os = [.sh (.int k)] ∧ k ∈ ns ∧ Q (.sh (.int (ns.idxOf k : Nat))) ⟨s1, g⟩ := holds_mono h1 fun os s1 ⟨ns', k, z, q⟩ => by
        rw [hd] at z
        have e : ns = ns' := by
          have := congrArg (List.map fun d => match d with | D.int i => i | _ => 0) (Option.some.inj z)
          simpa [List.map_map, Function.comp_def] using this
        subst e
        exact ⟨k, q⟩
      rcases seq2_some hd with z | z
      · exact we_either1 (we_indexI (he c rfl hf sl g _ (by rw [hr]; exact ⟨nobx_all _, ns, z, ha c rfl hf s g _ h3⟩)))
      · exact we_either2 (we_indexT (he c rfl hf sl g _ (by rw [hr]; exact ⟨nobx_all _, ns, z, ha c rfl hf s g _ h3⟩)))
def ownL (s : Sl) (i : Nat) : Option (List O) := match s[i]? with
  | some (some (.lst ls)) => some ls
  | _ => none
theorem ownL_some {s : Sl} {i : Nat} {ls : List O} (h : ownL s i = some ls) : s[i]? = some (some (.lst ls)) := by
  unfold ownL at h
  split at h
  · rename_i e
    cases h
    exact e
  · cases h
/-- a method of a list that a name holds alone -/
def eM (i : Nat) (f : List O → List O → Option (O × List O)) (fa : FA) : FE := fun sl => match ownL sl i with
  | some _ => (fa sl).bind fun os s => match ownL s i with
    | some ls => match f ls os with
      | some (o, ls') => .ok o (s.set i (some (.lst ls')))
      | none => .bad
    | none => .bad
  | none => .bad
theorem eM_holds {i : Nat} {f : List O → List O → Option (O × List O)} {fa : FA} {sl : Sl} {Q : O → Sl → Prop} (h : (eM i f fa sl).holds Q) : (∃ ls, sl[i]? = some (some (.lst ls))) ∧ (fa sl).holds fun os s => ∃ ls o ls', s[i]? = some (some (.lst ls)) ∧ f ls os = some (o, ls') ∧ Q o (s.set i (some (.lst ls'))) := by
  unfold eM at h
  split at h
  · rename_i l0 h0
    refine ⟨⟨l0, ownL_some h0⟩, holds_mono (holds_bind h) fun os s h1 => ?_⟩
    split at h1
    · rename_i ls hl
      split at h1
      · rename_i o ls' hq
        exact ⟨ls, o, ls', ownL_some hl, hq, h1⟩
      · exact h1.elim
    · exact h1.elim
  · exact h.elim
def mApp (ls os : List O) : Option (O × List O) := match os with
  | [o] => if ls.length < 100000 then some (.sh .non, ls ++ [o]) else none
  | _ => none
theorem se_app {i : Nat} {ta : TA} {fa : FA} (ha : SB K fx ta fa) : SE K fx (tBM K "list" rAppend (tVar i) ta) (eM i mApp fa) := fun c hK hf sl g Q h => by
  subst hK
  obtain ⟨⟨l0, h0⟩, h1⟩ := eM_holds h
  refine we_append (e := ⟨sl, g⟩) h0 (ha c rfl hf sl g _ (holds_mono h1 fun os s hx => ?_))
  obtain ⟨ls, o, ls', h2, h3, q⟩ := hx
  unfold mApp at h3
  split at h3
  · rename_i x
    split at h3
    · rename_i hl
      cases h3
      exact ⟨x, ls, rfl, h2, hl, q⟩
    · cases h3
  · cases h3
def mPopAt (ls os : List O) : Option (O × List O) := match os with
  | [.sh (.int k)] => if 0 ≤ k ∧ k < 100000 then match ls[k.toNat]? with
    | some o => some (o, ls.eraseIdx k.toNat)
    | none => none
    else none
  | _ => none
theorem se_popAt {i : Nat} {ta : TA} {fa : FA} (ha : SB K fx ta fa) : SE K fx (tBM K "list" rPopAt (tVar i) ta) (eM i mPopAt fa) := fun c hK hf sl g Q h => by
  subst hK
  obtain ⟨⟨l0, h0⟩, h1⟩ := eM_holds h
  refine we_popAt (e := ⟨sl, g⟩) h0 (ha c rfl hf sl g _ (holds_mono h1 fun os s hx => ?_))
  obtain ⟨ls, o, ls', h2, h3, q⟩ := hx
  unfold mPopAt at h3
  split at h3
  · rename_i k
    split at h3
    · rename_i hk
      split at h3
      · rename_i x hx
        cases h3
        exact ⟨k.toNat, o, ls, by rw [Int.toNat_of_nonneg hk.1], h2, hx, by omega, q⟩
      · cases h3
    · cases h3
  · cases h3
def mExt (ls os : List O) : Option (O × List O) := match os with
  | [o] => match toD o with
    | .lst ds => if ls.length + ds.length ≤ 100000 then some (.sh .non, ls ++ ds.map O.sh) else none
    | _ => none
  | _ => none
theorem se_ext {i : Nat} {ta : TA} {fa : FA} (ha : SB K fx ta fa) : SE K fx (tBM K "list" rExtend (tVar i) ta) (eM i mExt fa) := fun c hK hf sl g Q h => by
  subst hK
  obtain ⟨⟨l0, h0⟩, h1⟩ := eM_holds h
  refine we_extend (e := ⟨sl, g⟩) h0 (ha c rfl hf sl g _ (holds_mono h1 fun os s hx => ?_))
  obtain ⟨ls, o, ls', h2, h3, q⟩ := hx
  unfold mExt at h3
  split at h3
  · rename_i x
    split at h3
    · rename_i ds hd
      split at h3
      · rename_i hl
        cases h3
        exact ⟨x, ls, ds, rfl, nobx_all _, hd, h2, hl, q⟩
      · cases h3
    · cases h3
  · cases h3
/-- xs[-1].append(x) of a list of lists -/
def sAppAt (i : Nat) (k : Int) (j : Nat) : FE := fun sl => match ownL sl i, sl[j]? with
  | some os, some (some (.sh d)) => match ixN os.length k with
    | some m => match os[m]? with
      | some (.lst ls) => if ls.length < 100000 then .ok (.sh .non) (sl.set i (some (.lst (os.set m (.lst (ls ++ [.sh d])))))) else .bad
      | _ => .bad
    | none => .bad
  | _, _ => .bad
theorem se_appAt {i j : Nat} {k : Int} {ti : TE} (hk : ∀ σ H (Q : VK), Q (.int k) H → ti σ H Q) : SE K fx (tBM K "list" rAppend (tOp (rIx K) (tVar i) ti) (tCons (tVar j) tNil)) (sAppAt i k j) := fun c hK hf sl g Q h => by
  subst hK
  unfold sAppAt at h
  split at h
  · rename_i os d h1 h2
    split at h
    · rename_i m hm
      split at h
      · rename_i ls hl
        split at h
        · rename_i hz
          refine we_appAt (e := ⟨sl, g⟩) (d := d) (ownL_some h1) hm hl hk (fun S H ts vs σ r => ?_) hz h
          obtain ⟨v, k1, k2⟩ := r.get h2
          exact ⟨v, k2, fun Q q => ⟨v, k1, q⟩⟩
        · exact h.elim
      · exact h.elim
    · exact h.elim
  · exact h.elim
/-! ### stores -/
def gSt (i : Nat) (fe : FE) : FG := fun o sl => match ownL sl i with
  | some _ => (fe sl).bind fun k s => match asI k, ownL s i with
    | some k, some ls => match ixN ls.length k with
      | some j => .ok () (s.set i (some (.lst (ls.set j o))))
      | none => .bad
    | _, _ => .bad
  | none => .bad
theorem sg_set {i : Nat} {ti : TE} {fe : FE} (he : SE K fx ti fe) : SG K fx (gSub (tVar i) ti rSetL) (gSt i fe) := fun c hK hf o sl g Q h => by
  unfold gSt at h
  split at h
  · rename_i l0 h0
    refine wg_set (e := ⟨sl, g⟩) (ownL_some h0) (he c hK hf sl g _ (holds_mono (holds_bind h) fun k s h1 => ?_))
    split at h1
    · rename_i k ls hk hl
      split at h1
      · rename_i j hj
        exact ⟨k, j, ls, asI_some hk, ownL_some hl, hj, h1⟩
      · exact h1.elim
    · exact h1.elim
  · exact h.elim
/-- xs[k] += n -/
theorem ws_augO {c : Ct} {e : TX.Env} {i : Nat} {ti te : TE} {P : Post} {o0 : O} (h0 : e.sl[i]? = some (some o0))
    (h : WE c ti e fun o e1 => ∃ (j : Nat) (ls : List O) (a : Int), o = .sh (.int (j : Int)) ∧ e1.sl[i]? = some (some (.lst ls)) ∧ ls.length ≤ 100000 ∧ ls[j]? = some (.sh (.int a)) ∧
      WE c te ⟨e1.sl.set i none, e1.g⟩ fun o2 e2 => ∃ b : Int, o2 = .sh (.int b) ∧ P.nx ⟨e2.sl.set i (some (.lst (ls.set j (.sh (.int (a + b)))))), e2.g⟩) :
    WS c (tAugS (tVar i) ti te rIxN (ipI fun i j => i + j) rSetL) e P := fun S H ts vs σ rr D d1 d2 d3 d4 => by
  obtain ⟨v, h1, r1⟩ := rr.out h0
  refine ⟨v, h1, h S H ts vs σ rr _ fun o y e1 S1 H1 r2 ⟨j, ls, a, e2, e3, e4, e5, q⟩ => ?_⟩
  subst e2
  have t : y = V.int (j : Int) := r2.top
  subst t
  obtain ⟨v', k1, r4⟩ := r2.pop.out e3
  rw [h1] at k1
  obtain rfl := Option.some.inj (Option.some.inj k1)
  obtain ⟨p, xs, g, ft, fe, rfl, hp, a1, a2, a3, a4⟩ := r4.openTop
  obtain ⟨z, g1, g2, z1, z2, z3, z4⟩ := RepOs.erase a1 e5
  have ez : z = V.int a := by
    simp only [RepO, Rep] at z2
    exact z2.1
  subst ez
  have lx : xs.length = ls.length := a1.len
  refine ⟨p, xs, j, _, rfl, rfl, hp, by rw [lx]; exact e4, z1, ?_⟩
  refine q S1 H1 (.lst ls :: ts) (.ref p :: vs) σ r4 _ fun o2 y2 e2 S2 H2 r5 ⟨b, f1, f2⟩ => ?_
  subst f1
  have t2 : y2 = V.int b := r5.top
  subst t2
  obtain ⟨p', xs', ep, hp', lx'⟩ := r5.pop.ref_top
  obtain rfl := V.ref.inj ep
  have jl : j < ls.length := (List.getElem?_eq_some_iff.mp e5).1
  refine ⟨a, b, rfl, rfl, p, xs', j, j, rfl, rfl, hp', ?_, ?_⟩
  · unfold ixN
    rw [if_pos (by omega), if_pos (by omega)]
    simp
  · have r6 := R.swap r5
    have r7 : R c S2 H2 (.lst ls :: O.sh (.int (a + b)) :: ts) (.ref p :: V.int (a + b) :: vs) e2 σ := R.swap (R.push (d := .int (a + b)) (v := .int (a + b)) r5.pop rfl)
    have r8 := R.setAt (k := j) r7 hp'
    exact d1 _ _ _ _ (r8.inn (i := i) h1) f2
def sAgS (i : Nat) (fi fe : FE) : FS := fun sl => match ownL sl i with
  | some _ => (fi sl).bind fun k s => match asI k, ownL s i with
    | some k, some ls => if 0 ≤ k ∧ ls.length ≤ 100000 then match ls[k.toNat]? with
      | some (.sh (.int a)) => (fe (s.set i none)).bind fun b s2 => match asI b with
        | some b => .ok .nx (s2.set i (some (.lst (ls.set k.toNat (.sh (.int (a + b)))))))
        | _ => .bad
      | _ => .bad
      else .bad
    | _, _ => .bad
  | none => .bad
theorem ss_agS {i : Nat} {ti te : TE} {fi fe : FE} (hi : SE K fx ti fi) (he : SE K fx te fe) : SS K fx (tAugS (tVar i) ti te rIxN (ipI fun i j => i + j) rSetL) (sAgS i fi fe) := fun c hK hf sl g P h => by
  unfold sAgS at h
  split at h
  · rename_i l0 h0
    refine ws_augO (e := ⟨sl, g⟩) (ownL_some h0) (hi c hK hf sl g _ (holds_mono (holds_bind h) fun k s h1 => ?_))
    split at h1
    · rename_i k ls hk hl
      split at h1
      · rename_i hz
        split at h1
        · rename_i a ha
          refine ⟨k.toNat, ls, a, by rw [Int.toNat_of_nonneg hz.1]; exact asI_some hk, ownL_some hl, hz.2, ha, he c hK hf _ g _ (holds_mono (holds_bind h1) fun b s2 h2 => ?_)⟩
          split at h2
          · rename_i b hb
            exact ⟨b, asI_some hb, h2⟩
          · exact h2.elim
        · exact h1.elim
      · exact h1.elim
    · exact h1.elim
  · exact h.elim
/-- x += e -/
def sAug (i : Nat) (f : Int → Int → Int) (fe : FE) : FS := fun sl => match sl[i]? with
  | some (some (.sh (.int a))) => (fe sl).bind fun b s => match asI b with
    | some b => .ok .nx (s.set i (some (.sh (.int (f a b)))))
    | none => .bad
  | _ => .bad
theorem ss_aug {i : Nat} {te : TE} {fe : FE} {f : Int → Int → Int} (hi : i ∉ fx) (he : SE K fx te fe) : SS K fx (tAug i te (ipI f)) (sAug i f fe) := fun c hK hf sl g P h S H ts vs σ rr D d1 d2 d3 d4 => by
  unfold sAug at h
  split at h
  · rename_i a ha
    obtain ⟨v, h1, h2⟩ := rr.get ha
    have ev : v = V.int a := h2
    subst ev
    refine ⟨V.int a, h1, he c hK hf sl g _ (holds_mono (holds_bind h) fun b s h3 => ?_) S H ts vs σ rr _ fun o y e1 S1 H1 r1 (q : ∃ b, o = .sh (.int b) ∧ P.nx ⟨e1.sl.set i (some (.sh (.int (f a b)))), e1.g⟩) => ?_⟩
    · split at h3
      · rename_i b hb
        exact ⟨b, asI_some hb, h3⟩
      · exact h3.elim
    · obtain ⟨b, e2, q⟩ := q
      subst e2
      have t : y = V.int b := r1.top
      subst t
      refine ⟨a, b, rfl, rfl, d1 _ _ _ _ (R.put (i := i) (R.push (d := .int (f a b)) (v := .int (f a b)) r1.pop rfl) (by rw [hf]; exact hi)) q⟩
  · exact h.elim
/-! ### truth -/
def truO (o : O) : Option Bool := match toD o with
  | .lst ds => some (!ds.isEmpty)
  | .tup ds => some (!ds.isEmpty)
  | _ => none
def tTr (fe : FE) : FT := fun sl => (fe sl).bind fun o s => ofO (truO o) s
theorem st_tru {te : TE} {fe : FE} (he : SE K fx te fe) : ST K fx (tTruth K te) (tTr fe) := fun c hK hf sl g Q h => by
  subst hK
  refine wt_tru (he c rfl hf sl g _ (holds_mono (holds_bind h) fun o s h1 => ⟨nobx_all _, ?_⟩))
  obtain ⟨b, e, q⟩ := ofO_holds h1
  unfold truO at e
  split at e
  · rename_i ds hd
    cases e
    exact ⟨ds, .inl hd, q⟩
  · rename_i ds hd
    cases e
    exact ⟨ds, .inr hd, q⟩
  · cases e
end
end TX
end

section
namespace TX
open PySem PySem.Spec PyProof.Rows L2
/-- turns of a while, more than any has -/
def fuel : Nat := 1000000000000
theorem fuel_big {n : Nat} (h : n ≤ 100000000000) : n < fuel := by
  unfold fuel
  omega
/-! ### a def by its body's run -/
def finF (fx : List Nat) (o : O) (s : Sl) : Rs (List O) O := match takeL fx s with
  | some (ls, _) => .ok o ls
  | none => .bad
def fnF (m : Nat) (fx : List Nat) (b : FS) : Fd := fun os => match b (os.map some ++ List.replicate m none) with
  | .ok (.rt o) s => finF fx o s
  | .ok .nx s => finF fx (.sh .non) s
  | .ok .bk _ => .bad
  | .ok .ct _ => .bad
  | .ex x s => match takeL fx s with
    | some (ls, _) => .ex x ls
    | none => .bad
  | .bad => .bad
def mkC (n m : Nat) (fx : List Nat) (b : FS) : Con := ⟨n, fx, fnF m fx b⟩
/-- a def that is never run -/
def noC (n : Nat) (fx : List Nat) : Con := ⟨n, fx, fun _ => .bad⟩
theorem finF_ok {fx : List Nat} {o o' : O} {s : Sl} {ls : List O} (h : finF fx o s = .ok o' ls) : ∃ s2, takeL fx s = some (ls, s2) ∧ o = o' := by
  unfold finF at h
  cases z : takeL fx s with
  | none => rw [z] at h; cases h
  | some x =>
    obtain ⟨l1, s2⟩ := x
    rw [z] at h
    cases h
    exact ⟨s2, rfl, rfl⟩
section
variable {P : Program} {w : World} {K : PySem.W.Frag} {mg : Str → Option Value} {base : Heap} {k : Nat} {f : Addr}
theorem ok_fn {x qual : Str} {st : Stmt} {fd : FuncData} {N ps : List Str} {n m : Nat} {fx : List Nat} {b : FS} (F : Fun K x qual st f fd) (S : FnScope N ps (defScope st)) (hn : n = ps.length) (hm : N.length - n = m) (hfx : ∀ i ∈ fx, i < n)
    (hbody : ∀ (cdv : Value) (A : Around) (out : List PySem.Env) (s : Shared) (H : Hp) (E : XK), (A.deeper (envOfC qual (defScope st) s.heap.objs.size f cdv)).guards = some [] → Room k (A.deeper (envOfC qual (defScope st) s.heap.objs.size f cdv)) →
      ∃ t, PSs (cxOf CX0 P w K mg base N qual (defScope st) f cdv A out s H E).nox (defBody st) t ∧ SS K fx t b) :
    FnG P w K mg base CX0 (k + 1) f fd ps (spT K (mkC n m fx b)) := by
  refine okG (C := mkC n m fx b) F S hn hfx fun cdv A out s H E hgd hr => ?_
  obtain ⟨t, ht, hs⟩ := hbody cdv A out s H E hgd hr
  refine ⟨t, ht, fun c os hK hf hl ⟨o, ls, hrun⟩ => hs c hK hf _ 0 _ ?_⟩
  rw [show N.length - (mkC n m fx b).n = m from hm]
  have hr2 : fnF m fx b os = .ok o ls := hrun
  unfold fnF at hr2
  cases hb : b (os.map some ++ List.replicate m none) with
  | bad => rw [hb] at hr2; cases hr2
  | ex x s =>
    rw [hb] at hr2
    dsimp only at hr2
    split at hr2 <;> cases hr2
  | ok fl s =>
    rw [hb] at hr2
    cases fl with
    | nx =>
      obtain ⟨s2, h1, h2⟩ := finF_ok hr2
      exact ⟨ls, s2, h1, by rw [hrun, h2]⟩
    | rt o' =>
      obtain ⟨s2, h1, h2⟩ := finF_ok hr2
      exact ⟨ls, s2, h1, by rw [hrun, h2]⟩
    | bk => cases hr2
    | ct => cases hr2
theorem ok_no {fd : FuncData} {ps : List Str} {n : Nat} {fx : List Nat} : FnG P w K mg base CX0 k f fd ps (spT K (noC n fx)) :=
  ⟨fun vs H Q E h => by obtain ⟨_, _, _, _, _, _, _, _, q⟩ := h; exact q.elim, fun A out s H args us vs Q E _ _ _ _ _ h => by obtain ⟨_, _, _, _, _, _, _, _, q⟩ := h; exact q.elim⟩
theorem law_start {C : Con} {H : Hp} {a : Addr} {ns : List Int} {E : XK} (hn : C.n = 1) (hfx : C.fx = []) (hrun : C.run [.sh (.scr ns)] = .ok (.sh (.bl true)) []) (hS : SqL K H a (ns.map V.int)) : spT K C [.ref a] H (fun v _ => v = .bl true) E := by
  refine ⟨H, fun _ => False, [.sh (.scr ns)], fun _ => 0, Same.refl H, ?_, fun a => ⟨by (try dsimp only); omega, fun z => by (try dsimp only at z); omega⟩, hn.symm, ?_⟩
  · simp only [RepOs, RepO, Rep]
    exact ⟨_, _, fun _ => 0, fun _ => 0, rfl, ⟨⟨a, rfl, hS⟩, fun _ => rfl⟩, ⟨rfl, fun _ => rfl⟩, fun _ => rfl⟩
  · rw [hrun]
    intro v S' H' g us h1 h2 h3 h4 h5 h6 h7 h8
    simp only [RepOs, RepO, Rep] at h7
    obtain ⟨v', r, f1, f2, e1, ⟨e2, _⟩, _⟩ := h7
    obtain ⟨rfl, _⟩ := List.cons.inj e1
    exact e2
end
/-! ### slots that are not asked for behind a block -/
def wipeF (is : List Nat) : Fl → Sl → Rs Sl Fl
  | fl, s => .ok fl (wipeS s is)
def sEnd (is : List Nat) (f : FS) : FS := fun sl => (f sl).bind fun fl s => .ok fl (wipeS s is)
section
variable {K : PySem.W.Frag} {fx : List Nat}
theorem R.forgs {c : Ct} {S H : Hp} {ts : List O} {vs : List V} {σ : L2.St} {sl : Sl} {g : Nat} (r : R c S H ts vs ⟨sl, g⟩ σ) : ∀ is : List Nat, R c S H ts vs ⟨wipeS sl is, g⟩ σ
  | [] => r
  | i :: is => (R.forgs r is).forg (i := i)
theorem ss_end {t : TS} {f : FS} {is : List Nat} (h : SS K fx t f) : SS K fx t (sEnd is f) := fun c hK hf sl g P q S H ts vs σ r D d1 d2 d3 d4 => by
  refine h c hK hf sl g ⟨fun e => P.nx ⟨wipeS e.sl is, e.g⟩, fun o e => P.rt o ⟨wipeS e.sl is, e.g⟩, fun e => P.bk ⟨wipeS e.sl is, e.g⟩, fun e => P.ct ⟨wipeS e.sl is, e.g⟩⟩ (holds_mono (holds_bind q) fun fl s z => ?_) S H ts vs σ r D
    (fun e' S' H' σ' r' z => d1 _ S' H' σ' (R.forgs (sl := e'.sl) (g := e'.g) r' is) z) (fun o v e' S' H' σ' r' z => d2 o v _ S' H' σ' (R.forgs (sl := e'.sl) (g := e'.g) r' is) z)
    (fun e' S' H' σ' r' z => d3 _ S' H' σ' (R.forgs (sl := e'.sl) (g := e'.g) r' is) z) (fun e' S' H' σ' r' z => d4 _ S' H' σ' (R.forgs (sl := e'.sl) (g := e'.g) r' is) z)
  cases fl <;> exact z
end
end TX
end

section
namespace TX
open PySem PySem.Spec PyProof.Rows L2
/-! ### math -/
section
variable {X : Cx} {K : PySem.W.Frag}
def rPerm : List V → Hp → VK → Prop := fun vs H Q => ∃ a b : Int, vs = [.int a, .int b] ∧ 0 ≤ a ∧ 0 ≤ b ∧ a < 2 ^ 64 ∧ b ≤ 20000 ∧ Q (.int (PySem.W.mcPerm a b)) H
theorem cr_perm : CallR X (.builtin "math.perm") rPerm := by
  intro pins s σ H vs us Q I r h
  obtain ⟨a, b, rfl, h1, h2, h3, h4, q⟩ := h
  obtain ⟨t, u, rfl⟩ := Vals.int2 r
  exact PySem.W.mc_perm h1 h2 h3 h4 fun _ => ⟨.int _, H, I.tok _, ⟨_, rfl⟩, q⟩
def rFact : List V → Hp → VK → Prop := fun vs H Q => ∃ a : Int, vs = [.int a] ∧ 0 ≤ a ∧ a ≤ 20000 ∧ Q (.int ((Builtin.Math.factorialNat a.toNat : Nat) : Int)) H
theorem cr_fact : CallR X (.builtin "math.factorial") rFact := by
  intro pins s σ H vs us Q I r h
  obtain ⟨a, rfl, h1, h2, q⟩ := h
  match us, r with
  | _, .cons ⟨t, rfl⟩ .nil => exact PySem.W.mc_factorial h1 h2 fun _ => ⟨.int _, H, I.tok _, ⟨_, rfl⟩, q⟩
abbrev cGcd : List O → Option O := c2I fun i j => ((Nat.gcd i.natAbs j.natAbs : Nat) : Int)
theorem sc_gcd : SC K rGcd cGcd := fun c hK os e Q o h q => by
  obtain ⟨i, j, rfl, rfl⟩ := c2I_some h
  intro S H ts vs us σ r l Q' k
  obtain ⟨u, w, rfl⟩ := vals_two l
  have t : u = V.int i := r.top
  have t2 : w = V.int j := r.pop.top
  subst t t2
  exact ⟨i, j, rfl, k _ _ _ _ _ (r.pop.pop.push (d := .int _) rfl) q⟩
def permI (a b : Int) : Int := PySem.W.mcPerm a b
def cPerm : List O → Option O
  | [a, b] => match toD a, toD b with
    | .int i, .int j => if 0 ≤ i ∧ 0 ≤ j ∧ i < 2 ^ 64 ∧ j ≤ 20000 then some (.sh (.int (permI i j))) else none
    | _, _ => none
  | _ => none
theorem sc_perm : SC K rPerm cPerm := fun c hK os e Q o h q => by
  unfold cPerm at h
  split at h
  · split at h
    · rename_i a b i j h1 h2
      split at h
      · rename_i hz
        cases h
        rw [toD_int h1, toD_int h2]
        intro S H ts vs us σ r l Q' k
        obtain ⟨u, w, rfl⟩ := vals_two l
        have t : u = V.int i := r.top
        have t2 : w = V.int j := r.pop.top
        subst t t2
        exact ⟨i, j, rfl, hz.1, hz.2.1, hz.2.2.1, hz.2.2.2, k _ _ _ _ _ (r.pop.pop.push (d := .int _) rfl) q⟩
      · cases h
    · cases h
  · cases h
def factI (a : Int) : Int := ((Builtin.Math.factorialNat a.toNat : Nat) : Int)
def factD : D → Option O
  | .int i => if 0 ≤ i ∧ i ≤ 20000 then some (.sh (.int (factI i))) else none
  | _ => none
theorem sc_fact : SC K rFact (c1 factD) := fun c hK os e Q o h q => by
  obtain ⟨a, rfl, _⟩ := c1_some h
  simp only [c1_one] at h
  unfold factD at h
  split at h
  · rename_i i hi
    split at h
    · rename_i hz
      cases h
      rw [toD_int hi]
      intro S H ts vs us σ r l Q' k
      obtain ⟨u, rfl⟩ := vals_one l
      have t : u = V.int i := r.top
      subst t
      exact ⟨i, rfl, hz.1, hz.2, k _ _ _ _ _ (r.pop.push (d := .int _) rfl) q⟩
    · cases h
  · cases h
end
end TX
end

section
/-! Runs reckoned: the first piece first. -/
namespace TX
open PySem PySem.Spec PyProof.Rows L2
section
variable {sl : Sl} {fa fb fc fe fl' fh fz : FE} {ft fu : FT} {p1 p2 p3 : FP} {aa ab : FA} {ra : FR} {s1 s2 : FS} {o : O} {fg : FG} {fgs : FGs} {fi : FI} {d : D} {ds : List D}
@[simp] theorem eK_r : eK d sl = .ok (.sh d) sl := rfl
def rdV (i : Nat) (sl : Sl) : Option (Option O) → Rs Sl O
  | some (some (.sh d)) => .ok (.sh d) sl
  | some (some o) => .ok (.sh (toD o)) (sl.set i (some (.sh (toD o))))
  | _ => .bad
@[simp] theorem rdV_sh {i : Nat} : rdV i sl (some (some (.sh d))) = .ok (.sh d) sl := rfl
@[simp] theorem rdV_lst {i : Nat} {os : List O} : rdV i sl (some (some (.lst os))) = .ok (.sh (.lst (toDs os))) (sl.set i (some (.sh (.lst (toDs os))))) := rfl
@[simp] theorem rdV_dct {i : Nat} {ks : List Key} {os : List O} : rdV i sl (some (some (.dct ks os))) = .ok (.sh (.dct ks (toDs os))) (sl.set i (some (.sh (.dct ks (toDs os))))) := rfl
@[simp] theorem eVar_r {i : Nat} : eVar i sl = rdV i sl sl[i]? := rfl
def mvV (i : Nat) (sl : Sl) : Option (Option O) → Rs Sl O
  | some (some o) => .ok o (sl.set i none)
  | _ => .bad
@[simp] theorem mvV_o {i : Nat} : mvV i sl (some (some o)) = .ok o (sl.set i none) := rfl
@[simp] theorem eMv_r {i : Nat} : eMv i sl = mvV i sl sl[i]? := rfl
def kOp2 (op : O → O → Option O) (a : O) : O → Sl → Rs Sl O := fun b s2 => ofO (op a b) s2
def kOp1 (op : O → O → Option O) (fb : FE) : O → Sl → Rs Sl O := fun a s => (fb s).bind (kOp2 op a)
@[simp] theorem kOp2_r {op : O → O → Option O} {a b : O} : kOp2 op a b sl = ofO (op a b) sl := rfl
@[simp] theorem kOp1_r {op : O → O → Option O} {a : O} : kOp1 op fb a sl = (fb sl).bind (kOp2 op a) := rfl
@[simp] theorem eOp_r {op : O → O → Option O} : eOp op fa fb sl = (fa sl).bind (kOp1 op fb) := rfl
def kUn (op : O → Option O) : O → Sl → Rs Sl O := fun a s => ofO (op a) s
@[simp] theorem kUn_r {op : O → Option O} {a : O} : kUn op a sl = ofO (op a) sl := rfl
@[simp] theorem eUn_r {op : O → Option O} : eUn op fa sl = (fa sl).bind (kUn op) := rfl
def kB : O → Sl → Rs Sl Bool := fun a s => ofO (asB a) s
@[simp] theorem kB_r {b : Bool} : kB (.sh (.bl b)) sl = .ok b sl := rfl
@[simp] theorem eB_r : eB fa sl = (fa sl).bind kB := rfl
def kNt : Bool → Sl → Rs Sl O := fun b s => .ok (.sh (.bl (!b))) s
@[simp] theorem kNt_r {b : Bool} : kNt b sl = .ok (.sh (.bl (!b))) sl := rfl
@[simp] theorem eNot_r : eNot fa sl = (eB fa sl).bind kNt := rfl
def kIf {α : Type} (f g : Sl → Rs Sl α) : Bool → Sl → Rs Sl α := fun b s => if b = true then f s else g s
@[simp] theorem kIf_t {α : Type} {f g : Sl → Rs Sl α} : kIf f g true sl = f sl := rfl
@[simp] theorem kIf_f {α : Type} {f g : Sl → Rs Sl α} : kIf f g false sl = g sl := rfl
def okk {α : Type} (a : α) : Sl → Rs Sl α := fun s => .ok a s
@[simp] theorem okk_r {α : Type} {a : α} : okk a sl = .ok a sl := rfl
@[simp] theorem eAnd_r : eAnd fa fb sl = (eB fa sl).bind (kIf fb (okk (.sh (.bl false)))) := rfl
@[simp] theorem eOr_r : eOr fa fb sl = (eB fa sl).bind (kIf (okk (.sh (.bl true))) fb) := rfl
@[simp] theorem eIf_r : eIf ft fa fb sl = (ft sl).bind (kIf fa fb) := rfl
def kTn : Bool → Sl → Rs Sl Bool := fun b s => .ok (!b) s
@[simp] theorem kTn_r {b : Bool} : kTn b sl = .ok (!b) sl := rfl
@[simp] theorem tN_r : tN ft sl = (ft sl).bind kTn := rfl
@[simp] theorem tA_r : tA ft fu sl = (ft sl).bind (kIf fu (okk false)) := rfl
@[simp] theorem tR_r : tR ft fu sl = (ft sl).bind (kIf (okk true) fu) := rfl
@[simp] theorem tY_r : tY sl = .ok true sl := rfl
@[simp] theorem aN_r : aN sl = .ok [] sl := rfl
def kA2 (o : O) : List O → Sl → Rs Sl (List O) := fun os s2 => .ok (o :: os) s2
def kA1 (fa : FA) : O → Sl → Rs Sl (List O) := fun o s => (fa s).bind (kA2 o)
@[simp] theorem kA2_r {os : List O} : kA2 o os sl = .ok (o :: os) sl := rfl
@[simp] theorem kA1_r : kA1 aa o sl = (aa sl).bind (kA2 o) := rfl
@[simp] theorem aC_r : aC fe aa sl = (fe sl).bind (kA1 aa) := rfl
@[simp] theorem rN_r : rN sl = .ok [] sl := rfl
def kR2 (a : Ar) : List Ar → Sl → Rs Sl (List Ar) := fun os s2 => .ok (a :: os) s2
def kR1 (fa : FR) : O → Sl → Rs Sl (List Ar) := fun o s => (fa s).bind (kR2 (.v (toD o)))
@[simp] theorem kR2_r {a : Ar} {os : List Ar} : kR2 a os sl = .ok (a :: os) sl := rfl
@[simp] theorem kR1_r : kR1 ra o sl = (ra sl).bind (kR2 (.v (toD o))) := rfl
@[simp] theorem rV_r : rV fe ra sl = (fe sl).bind (kR1 ra) := rfl
def lnV (i : Nat) (fa : FR) (sl : Sl) : Option (Option O) → Rs Sl (List Ar)
  | some (some _) => (fa sl).bind (kR2 (.l i))
  | _ => .bad
@[simp] theorem lnV_o {i : Nat} : lnV i ra sl (some (some o)) = (ra sl).bind (kR2 (.l i)) := rfl
@[simp] theorem rL_r {i : Nat} : rL i ra sl = lnV i ra sl sl[i]? := rfl
def kCl (C : Con) : List Ar → Sl → Rs Sl O := fun as s => if as.length = C.n ∧ posA as 0 = C.fx then runA C as s else .bad
@[simp] theorem kCl_r {C : Con} {as : List Ar} : kCl C as sl = if as.length = C.n ∧ posA as 0 = C.fx then runA C as sl else .bad := rfl
@[simp] theorem eCall_r {C : Con} : eCall C ra sl = (ra sl).bind (kCl C) := rfl
def kCk2 (C : Con) (n m : Nat) (is : List Nat) (os1 : List O) : List O → Sl → Rs Sl O := fun os2 s2 => if os1.length = n ∧ os2.length = m ∧ (pickL is (toDs os1 ++ toDs os2)).length = C.n ∧ C.fx = [] then runA C ((pickL is (toDs os1 ++ toDs os2)).map Ar.v) s2 else .bad
def kCk1 (C : Con) (n m : Nat) (is : List Nat) (fb : FA) : List O → Sl → Rs Sl O := fun os1 s => (fb s).bind (kCk2 C n m is os1)
@[simp] theorem kCk2_r {C : Con} {n m : Nat} {is : List Nat} {os1 os2 : List O} : kCk2 C n m is os1 os2 sl = if os1.length = n ∧ os2.length = m ∧ (pickL is (toDs os1 ++ toDs os2)).length = C.n ∧ C.fx = [] then runA C ((pickL is (toDs os1 ++ toDs os2)).map Ar.v) sl else .bad := rfl
@[simp] theorem kCk1_r {C : Con} {n m : Nat} {is : List Nat} {os1 : List O} : kCk1 C n m is ab os1 sl = (ab sl).bind (kCk2 C n m is os1) := rfl
@[simp] theorem eCallK_r {C : Con} {n m : Nat} {is : List Nat} : eCallK C n m is aa ab sl = (aa sl).bind (kCk1 C n m is ab) := rfl
def kCb (f : List O → Option O) : List O → Sl → Rs Sl O := fun os s => ofO (f os) s
@[simp] theorem kCb_r {f : List O → Option O} {os : List O} : kCb f os sl = ofO (f os) sl := rfl
@[simp] theorem eCB_r {f : List O → Option O} : eCB f aa sl = (aa sl).bind (kCb f) := rfl
def kPk (sl : Sl) : O → Sl → Rs Sl O := fun r _ => if indep r = true then .ok r sl else .bad
@[simp] theorem kPk_r {r : O} {s' : Sl} : kPk sl r s' = if indep r = true then .ok r sl else .bad := rfl
def pkV (i : Nat) (fe : FE) (sl : Sl) : Option (Option O) → Rs Sl O
  | some (some (.sh _)) => fe sl
  | some (some o) => (fe ((hide sl).set i (some (.sh (toD o))))).bind (kPk sl)
  | _ => .bad
@[simp] theorem pkV_sh {i : Nat} : pkV i fe sl (some (some (.sh d))) = fe sl := rfl
@[simp] theorem pkV_lst {i : Nat} {os : List O} : pkV i fe sl (some (some (.lst os))) = (fe ((hide sl).set i (some (.sh (.lst (toDs os)))))).bind (kPk sl) := rfl
@[simp] theorem pkV_dct {i : Nat} {ks : List Key} {os : List O} : pkV i fe sl (some (some (.dct ks os))) = (fe ((hide sl).set i (some (.sh (.dct ks (toDs os)))))).bind (kPk sl) := rfl
@[simp] theorem ePk_r {i : Nat} : ePk i fe sl = pkV i fe sl sl[i]? := by
  unfold ePk pkV
  split <;> simp_all <;> rfl
def kLst : List O → Sl → Rs Sl O := fun os s => if os.length ≤ 100000 then .ok (.lst os) s else .bad
@[simp] theorem kLst_r {os : List O} : kLst os sl = if os.length ≤ 100000 then .ok (.lst os) sl else .bad := rfl
@[simp] theorem eLst_r : eLst aa sl = (aa sl).bind kLst := rfl
def kTup : List O → Sl → Rs Sl O := fun os s => if os.length ≤ 100000 then .ok (.sh (.tup (toDs os))) s else .bad
@[simp] theorem kTup_r {os : List O} : kTup os sl = if os.length ≤ 100000 then .ok (.sh (.tup (toDs os))) sl else .bad := rfl
@[simp] theorem eTup_r : eTup aa sl = (aa sl).bind kTup := rfl
def kRaw : List O → Sl → Rs Sl O := fun os s => if os.length ≤ 100000 then .ok (.sh (.raw (toDs os))) s else .bad
@[simp] theorem kRaw_r {os : List O} : kRaw os sl = if os.length ≤ 100000 then .ok (.sh (.raw (toDs os))) sl else .bad := rfl
@[simp] theorem eRaw_r : eRaw aa sl = (aa sl).bind kRaw := rfl
@[simp] theorem pN_r : pN sl = .ok none sl := rfl
def kPs : O → Sl → Rs Sl (Option Int) := fun o s => ofO ((asI o).map some) s
@[simp] theorem kPs_r {i : Int} : kPs (.sh (.int i)) sl = .ok (some i) sl := rfl
@[simp] theorem pS_r : pS fe sl = (fe sl).bind kPs := rfl
def kSq (s2 : FS) : Fl → Sl → Rs Sl Fl := fun fl s => match fl with
  | .nx => s2 s
  | .rt o => .ok (.rt o) s
  | .bk => .ok .bk s
  | .ct => .ok .ct s
@[simp] theorem kSq_nx : kSq s2 .nx sl = s2 sl := rfl
@[simp] theorem kSq_rt : kSq s2 (.rt o) sl = .ok (.rt o) sl := rfl
@[simp] theorem kSq_bk : kSq s2 .bk sl = .ok .bk sl := rfl
@[simp] theorem kSq_ct : kSq s2 .ct sl = .ok .ct sl := rfl
@[simp] theorem sSeq_r : sSeq s1 s2 sl = (s1 sl).bind (kSq s2) := rfl
@[simp] theorem sNx_r : sNx sl = .ok .nx sl := rfl
@[simp] theorem sBk_r : sBk sl = .ok .bk sl := rfl
@[simp] theorem sCt_r : sCt sl = .ok .ct sl := rfl
def kDr : O → Sl → Rs Sl Fl := fun _ s => .ok .nx s
@[simp] theorem kDr_r : kDr o sl = .ok .nx sl := rfl
@[simp] theorem sDrop_r : sDrop fe sl = (fe sl).bind kDr := rfl
def kRt : O → Sl → Rs Sl Fl := fun o s => .ok (.rt o) s
@[simp] theorem kRt_r : kRt o sl = .ok (.rt o) sl := rfl
@[simp] theorem sRet_r : sRet fe sl = (fe sl).bind kRt := rfl
@[simp] theorem sRetN_r : sRetN sl = .ok (.rt (.sh .non)) sl := rfl
@[simp] theorem sIf_r : sIf ft s1 s2 sl = (ft sl).bind (kIf s1 s2) := rfl
@[simp] theorem sBad_r : sBad sl = .bad := rfl
@[simp] theorem gN_r {i : Nat} : gN i o sl = .ok () (sl.set i (some o)) := rfl
def kAs2 : Unit → Sl → Rs Sl Fl := fun _ s2 => .ok .nx s2
def kAs1 (fg : FG) : O → Sl → Rs Sl Fl := fun o s => (fg o s).bind kAs2
@[simp] theorem kAs2_r {u : Unit} : kAs2 u sl = .ok .nx sl := rfl
@[simp] theorem kAs1_r : kAs1 fg o sl = (fg o sl).bind kAs2 := rfl
@[simp] theorem sAsg_r : sAsg fe fg sl = (fe sl).bind (kAs1 fg) := rfl
def nxO : Option Sl → Rs Sl Fl
  | some s => .ok .nx s
  | none => .bad
@[simp] theorem nxO_r : nxO (some sl) = .ok .nx sl := rfl
def kPa (is : List Nat) : List O → Sl → Rs Sl Fl := fun os s => nxO (setN s is os)
@[simp] theorem kPa_r {is : List Nat} {os : List O} : kPa is os sl = nxO (setN sl is os) := rfl
@[simp] theorem sPar_r {is : List Nat} : sPar is aa sl = (aa sl).bind (kPa is) := by
  unfold sPar kPa nxO
  congr
@[simp] theorem setN_nil : setN sl [] [] = some sl := rfl
@[simp] theorem setN_cons {i : Nat} {is : List Nat} {os : List O} : setN sl (i :: is) (o :: os) = setN (sl.set i (some o)) is os := rfl
@[simp] theorem gsN_r : gsN [] sl = .ok () sl := rfl
def kGs (fgs : FGs) (ds : List D) : Unit → Sl → Rs Sl Unit := fun _ s => fgs ds s
@[simp] theorem kGs_r {u : Unit} : kGs fgs ds u sl = fgs ds sl := rfl
@[simp] theorem gsC_r : gsC fg fgs (d :: ds) sl = (fg (.sh d) sl).bind (kGs fgs ds) := rfl
def gTo (n : Nat) (fgs : FGs) (sl : Sl) : Option (List D) → Rs Sl Unit
  | some ds => if ds.length = n then fgs ds sl else .bad
  | none => .bad
@[simp] theorem gTo_r {n : Nat} : gTo n fgs sl (some ds) = if ds.length = n then fgs ds sl else .bad := rfl
@[simp] theorem gT_r {n : Nat} : gT n fgs o sl = gTo n fgs sl (parts (toD o)) := by
  unfold gT gTo
  cases parts (toD o) <;> rfl
@[simp] theorem parts_tup : parts (.tup ds) = some ds := rfl
@[simp] theorem parts_raw : parts (.raw ds) = some ds := rfl
def kFr (fg : FG) (fb : FS) : List D → Sl → Rs Sl Fl := fun ds s => forL fg fb ds s
@[simp] theorem kFr_r : kFr fg s1 ds sl = forL fg s1 ds sl := rfl
@[simp] theorem sFor_r : sFor fi fg s1 sl = (fi sl).bind (kFr fg s1) := rfl
def kEn (is : List Nat) : Fl → Sl → Rs Sl Fl := fun fl s => .ok fl (wipeS s is)
@[simp] theorem kEn_r {is : List Nat} {fl : Fl} : kEn is fl sl = .ok fl (wipeS sl is) := rfl
@[simp] theorem sEnd_r {is : List Nat} : sEnd is s1 sl = (s1 sl).bind (kEn is) := rfl
@[simp] theorem wipeS_nil : wipeS sl [] = sl := rfl
@[simp] theorem wipeS_cons {i : Nat} {is : List Nat} : wipeS sl (i :: is) = (wipeS sl is).set i none := rfl
def kLc (own : List Nat) (fg : FG) (ft : FT) (fe : FE) : List D → Sl → Rs Sl O := fun ds s => lcL own fg ft fe ds [] (wipeS s own)
@[simp] theorem kLc_r {own : List Nat} : kLc own fg ft fe ds sl = lcL own fg ft fe ds [] (wipeS sl own) := rfl
@[simp] theorem eLc_r {own : List Nat} : eLc own fi fg ft fe sl = (fi sl).bind (kLc own fg ft fe) := rfl
def kI1 : List O → Sl → Rs Sl (List D) := fun os s => match os with
  | [.sh (.int j)] => if inR j = true then .ok (rngD 0 j.toNat) s else .bad
  | _ => .bad
@[simp] theorem kI1_r {j : Int} : kI1 [.sh (.int j)] sl = if inR j = true then .ok (rngD 0 j.toNat) sl else .bad := rfl
@[simp] theorem iR1_r : iR1 aa sl = (aa sl).bind kI1 := rfl
def kI2 : List O → Sl → Rs Sl (List D) := fun os s => match os with
  | [.sh (.int i), .sh (.int j)] => if inR i = true ∧ inR j = true then .ok (rngD i (j - i).toNat) s else .bad
  | _ => .bad
@[simp] theorem kI2_r {i j : Int} : kI2 [.sh (.int i), .sh (.int j)] sl = if inR i = true ∧ inR j = true then .ok (rngD i (j - i).toNat) sl else .bad := rfl
@[simp] theorem iR2_r : iR2 aa sl = (aa sl).bind kI2 := rfl
def kIs : O → Sl → Rs Sl (List D) := fun o s => ofO (seq2 (toD o)) s
@[simp] theorem kIs_r : kIs o sl = ofO (seq2 (toD o)) sl := rfl
@[simp] theorem iS_r : iS fe sl = (fe sl).bind kIs := rfl
def kIz : List O → Sl → Rs Sl (List D) := fun os s => ofO (zipB os) s
@[simp] theorem kIz_r {os : List O} : kIz os sl = ofO (zipB os) sl := rfl
@[simp] theorem iZ_r : iZ aa sl = (aa sl).bind kIz := rfl
def kIe : List O → Sl → Rs Sl (List D) := fun os s => ofO (enumB os) s
@[simp] theorem kIe_r {os : List O} : kIe os sl = ofO (enumB os) sl := rfl
@[simp] theorem iEn_r : iEn aa sl = (aa sl).bind kIe := rfl
@[simp] theorem seq2_lst : seq2 (.lst ds) = some ds := rfl
@[simp] theorem seq2_tup : seq2 (.tup ds) = some ds := rfl
@[simp] theorem items_lst : items (.lst ds) = some ds := rfl
@[simp] theorem items_tup : items (.tup ds) = some ds := rfl
@[simp] theorem items_scr {ns : List Int} : items (.scr ns) = some (ns.map D.int) := rfl
def kLr1 : O → Sl → Rs Sl O := fun o s => match asI o with
  | some n => if small5 n = true then .ok (.lst ((rngD 0 n.toNat).map O.sh)) s else .bad
  | none => .bad
@[simp] theorem kLr1_r {n : Int} : kLr1 (.sh (.int n)) sl = if small5 n = true then .ok (.lst ((rngD 0 n.toNat).map O.sh)) sl else .bad := rfl
@[simp] theorem eLr1_r : eLr1 fe sl = (fe sl).bind kLr1 := rfl
def kLr2b (a : O) : O → Sl → Rs Sl O := fun b s2 => match asI a, asI b with
  | some i, some j => if small5 i = true ∧ small5 j = true then .ok (.lst ((rngD i (j - i).toNat).map O.sh)) s2 else .bad
  | _, _ => .bad
def kLr2a (fb : FE) : O → Sl → Rs Sl O := fun a s => (fb s).bind (kLr2b a)
@[simp] theorem kLr2b_r {i j : Int} : kLr2b (.sh (.int i)) (.sh (.int j)) sl = if small5 i = true ∧ small5 j = true then .ok (.lst ((rngD i (j - i).toNat).map O.sh)) sl else .bad := rfl
@[simp] theorem kLr2a_r : kLr2a fb o sl = (fb sl).bind (kLr2b o) := rfl
@[simp] theorem eLr2_r : eLr2 fa fb sl = (fa sl).bind (kLr2a fb) := rfl
def kTr2b (a : O) : O → Sl → Rs Sl O := fun b s2 => match asI a, asI b with
  | some i, some j => if small5 i = true ∧ small5 j = true then .ok (.sh (.tup (rngD i (j - i).toNat))) s2 else .bad
  | _, _ => .bad
def kTr2a (fb : FE) : O → Sl → Rs Sl O := fun a s => (fb s).bind (kTr2b a)
@[simp] theorem kTr2b_r {i j : Int} : kTr2b (.sh (.int i)) (.sh (.int j)) sl = if small5 i = true ∧ small5 j = true then .ok (.sh (.tup (rngD i (j - i).toNat))) sl else .bad := rfl
@[simp] theorem kTr2a_r : kTr2a fb o sl = (fb sl).bind (kTr2b o) := rfl
@[simp] theorem eTr2_r : eTr2 fa fb sl = (fa sl).bind (kTr2a fb) := rfl
def kSl3 (o : O) (lo : Option Int) : Option Int → Sl → Rs Sl O := fun hi s2 => ofO (cutO lo hi (toD o)) s2
def kSl2 (o : O) (p2 : FP) : Option Int → Sl → Rs Sl O := fun lo s1 => (p2 s1).bind (kSl3 o lo)
def kSl1 (p1 p2 : FP) : O → Sl → Rs Sl O := fun o s => (p1 s).bind (kSl2 o p2)
@[simp] theorem kSl3_r {lo hi : Option Int} : kSl3 o lo hi sl = ofO (cutO lo hi (toD o)) sl := rfl
@[simp] theorem kSl2_r {lo : Option Int} : kSl2 o p2 lo sl = (p2 sl).bind (kSl3 o lo) := rfl
@[simp] theorem kSl1_r : kSl1 p1 p2 o sl = (p1 sl).bind (kSl2 o p2) := rfl
@[simp] theorem eSl_r : eSl fe p1 p2 sl = (fe sl).bind (kSl1 p1 p2) := rfl
def stepO (lo hi st : Option Int) (sl : Sl) : D → Rs Sl O
  | .lst ds => if st ≠ some 0 then .ok (.lst ((pickL (stepIx lo hi st ds.length) ds).map O.sh)) sl else .bad
  | _ => .bad
@[simp] theorem stepO_l {lo hi st : Option Int} : stepO lo hi st sl (.lst ds) = if st ≠ some 0 then .ok (.lst ((pickL (stepIx lo hi st ds.length) ds).map O.sh)) sl else .bad := rfl
@[simp] theorem stepO_t {lo hi st : Option Int} : stepO lo hi st sl (.tup ds) = .bad := rfl
def kSt4 (o : O) (lo hi : Option Int) : Option Int → Sl → Rs Sl O := fun st s3 => stepO lo hi st s3 (toD o)
def kSt3 (o : O) (lo : Option Int) (p3 : FP) : Option Int → Sl → Rs Sl O := fun hi s2 => (p3 s2).bind (kSt4 o lo hi)
def kSt2 (o : O) (p2 p3 : FP) : Option Int → Sl → Rs Sl O := fun lo s1 => (p2 s1).bind (kSt3 o lo p3)
def kSt1 (p1 p2 p3 : FP) : O → Sl → Rs Sl O := fun o s => (p1 s).bind (kSt2 o p2 p3)
@[simp] theorem kSt4_r {lo hi st : Option Int} : kSt4 o lo hi st sl = stepO lo hi st sl (toD o) := rfl
@[simp] theorem kSt3_r {lo hi : Option Int} : kSt3 o lo p3 hi sl = (p3 sl).bind (kSt4 o lo hi) := rfl
@[simp] theorem kSt2_r {lo : Option Int} : kSt2 o p2 p3 lo sl = (p2 sl).bind (kSt3 o lo p3) := rfl
@[simp] theorem kSt1_r : kSt1 p1 p2 p3 o sl = (p1 sl).bind (kSt2 o p2 p3) := rfl
@[simp] theorem eStep_r : eStep fe p1 p2 p3 sl = (fe sl).bind (kSt1 p1 p2 p3) := by
  unfold eStep kSt1 kSt2 kSt3 kSt4 stepO
  rfl
def kRv2 (o : O) : O → Sl → Rs Sl O := fun z s1 => match toD o, z with
  | .tup ds, .sh (.int (-1)) => .ok (.sh (.tup ds.reverse)) s1
  | _, _ => .bad
def kRv1 (fz : FE) : O → Sl → Rs Sl O := fun o s => (fz s).bind (kRv2 o)
@[simp] theorem kRv2_r : kRv2 (.sh (.tup ds)) (.sh (.int (-1))) sl = .ok (.sh (.tup ds.reverse)) sl := rfl
@[simp] theorem kRv1_r : kRv1 fz o sl = (fz sl).bind (kRv2 o) := rfl
@[simp] theorem eRevT_r : eRevT fe fz sl = (fe sl).bind (kRv1 fz) := rfl
def eiV (fb : FE) (sl : Sl) : Rs Sl O → Rs Sl O
  | .ok o s => .ok o s
  | _ => fb sl
@[simp] theorem eiV_ok {s' : Sl} : eiV fb sl (.ok o s') = .ok o s' := rfl
@[simp] theorem eiV_bad : eiV fb sl .bad = fb sl := rfl
@[simp] theorem eEi_r : eEi fa fb sl = eiV fb sl (fa sl) := by
  unfold eEi eiV
  cases fa sl <;> rfl
def idxO (sl : Sl) (k : Int) : Option (List Int) → Rs Sl O
  | some ns => if k ∈ ns then .ok (.sh (.int (ns.idxOf k : Nat))) sl else .bad
  | none => .bad
@[simp] theorem idxO_r {k : Int} {ns : List Int} : idxO sl k (some ns) = if k ∈ ns then .ok (.sh (.int (ns.idxOf k : Nat))) sl else .bad := rfl
def kIx2 (o : O) : List O → Sl → Rs Sl O := fun os s1 => match seq2 (toD o), os with
  | some ds, [.sh (.int k)] => match intsOf ds with
    | some ns => if k ∈ ns then .ok (.sh (.int (ns.idxOf k : Nat))) s1 else .bad
    | none => .bad
  | _, _ => .bad
def kIx1 (fa : FA) : O → Sl → Rs Sl O := fun o s => (fa s).bind (kIx2 o)
@[simp] theorem kIx2_l {k : Int} : kIx2 (.sh (.lst ds)) [.sh (.int k)] sl = idxO sl k (intsOf ds) := by
  unfold kIx2 idxO
  dsimp only [toD_sh, seq2_lst]
@[simp] theorem kIx2_t {k : Int} : kIx2 (.sh (.tup ds)) [.sh (.int k)] sl = idxO sl k (intsOf ds) := by
  unfold kIx2 idxO
  dsimp only [toD_sh, seq2_tup]
@[simp] theorem kIx1_r : kIx1 aa o sl = (aa sl).bind (kIx2 o) := rfl
@[simp] theorem eIdx_r : eIdx fe aa sl = (fe sl).bind (kIx1 aa) := rfl
def kTy (n : String) : O → Sl → Rs Sl O := fun o s => .ok (.sh (.bl (isiT (tyD (toD o)) n))) s
@[simp] theorem kTy_r {n : String} : kTy n o sl = .ok (.sh (.bl (isiT (tyD (toD o)) n))) sl := rfl
@[simp] theorem eIsi_r {n : String} : eIsi n fe sl = (fe sl).bind (kTy n) := rfl
def kTy2 (n m : String) : O → Sl → Rs Sl O := fun o s => .ok (.sh (.bl (isiT (tyD (toD o)) n || isiT (tyD (toD o)) m))) s
@[simp] theorem kTy2_r {n m : String} : kTy2 n m o sl = .ok (.sh (.bl (isiT (tyD (toD o)) n || isiT (tyD (toD o)) m))) sl := rfl
@[simp] theorem eIsi2_r {n m : String} : eIsi2 n m fe sl = (fe sl).bind (kTy2 n m) := rfl
def kCh3 (op' : O → O → Option O) (b : O) : O → Sl → Rs Sl O := fun c s3 => ofO (op' b c) s3
def chO (op' : O → O → Option O) (fc : FE) (b : O) (sl : Sl) : Option O → Rs Sl O
  | some (.sh (.bl true)) => (fc sl).bind (kCh3 op' b)
  | some (.sh (.bl false)) => .ok (.sh (.bl false)) sl
  | _ => .bad
@[simp] theorem chO_t {op' : O → O → Option O} {b : O} : chO op' fc b sl (some (.sh (.bl true))) = (fc sl).bind (kCh3 op' b) := rfl
@[simp] theorem chO_f {op' : O → O → Option O} {b : O} : chO op' fc b sl (some (.sh (.bl false))) = .ok (.sh (.bl false)) sl := rfl
def kCh2 (op op' : O → O → Option O) (fc : FE) (a : O) : O → Sl → Rs Sl O := fun b s2 => chO op' fc b s2 (op a b)
def kCh1 (op op' : O → O → Option O) (fb fc : FE) : O → Sl → Rs Sl O := fun a s => (fb s).bind (kCh2 op op' fc a)
@[simp] theorem kCh3_r {op' : O → O → Option O} {b : O} : kCh3 op' b o sl = ofO (op' b o) sl := rfl
@[simp] theorem kCh2_r {op op' : O → O → Option O} {a : O} : kCh2 op op' fc a o sl = chO op' fc o sl (op a o) := rfl
@[simp] theorem kCh1_r {op op' : O → O → Option O} : kCh1 op op' fb fc o sl = (fb sl).bind (kCh2 op op' fc o) := rfl
@[simp] theorem eCh_r {op op' : O → O → Option O} : eCh op op' fa fb fc sl = (fa sl).bind (kCh1 op op' fb fc) := by
  unfold eCh kCh1 kCh2 chO kCh3
  congr
@[simp] theorem ownL_r {i : Nat} : ownL sl i = match sl[i]? with
  | some (some (.lst ls)) => some ls
  | _ => none := rfl
def mO (i : Nat) (sl : Sl) : Option (O × List O) → Rs Sl O
  | some (o, ls') => .ok o (sl.set i (some (.lst ls')))
  | none => .bad
@[simp] theorem mO_r {i : Nat} {ls : List O} : mO i sl (some (o, ls)) = .ok o (sl.set i (some (.lst ls))) := rfl
def mO2 (i : Nat) (f : List O → List O → Option (O × List O)) (os : List O) (sl : Sl) : Option (List O) → Rs Sl O
  | some ls => mO i sl (f ls os)
  | none => .bad
@[simp] theorem mO2_r {i : Nat} {f : List O → List O → Option (O × List O)} {os ls : List O} : mO2 i f os sl (some ls) = mO i sl (f ls os) := rfl
def kM (i : Nat) (f : List O → List O → Option (O × List O)) : List O → Sl → Rs Sl O := fun os s => mO2 i f os s (ownL s i)
@[simp] theorem kM_r {i : Nat} {f : List O → List O → Option (O × List O)} {os : List O} : kM i f os sl = mO2 i f os sl (ownL sl i) := rfl
def mO3 (i : Nat) (f : List O → List O → Option (O × List O)) (fa : FA) (sl : Sl) : Option (List O) → Rs Sl O
  | some _ => (fa sl).bind (kM i f)
  | none => .bad
@[simp] theorem mO3_r {i : Nat} {f : List O → List O → Option (O × List O)} {ls : List O} : mO3 i f aa sl (some ls) = (aa sl).bind (kM i f) := rfl
@[simp] theorem eM_r {i : Nat} {f : List O → List O → Option (O × List O)} : eM i f aa sl = mO3 i f aa sl (ownL sl i) := by
  unfold eM mO3 kM mO2 mO
  cases ownL sl i <;> rfl
def gO2 (i : Nat) (o : O) (k : Int) (sl : Sl) : Option (List O) → Rs Sl Unit
  | some ls => match ixN ls.length k with
    | some j => .ok () (sl.set i (some (.lst (ls.set j o))))
    | none => .bad
  | none => .bad
@[simp] theorem gO2_r {i : Nat} {k : Int} {ls : List O} : gO2 i o k sl (some ls) = match ixN ls.length k with
    | some j => .ok () (sl.set i (some (.lst (ls.set j o))))
    | none => .bad := rfl
def kGt (i : Nat) (o : O) : O → Sl → Rs Sl Unit := fun k s => match asI k with
  | some k => gO2 i o k s (ownL s i)
  | none => .bad
@[simp] theorem kGt_r {i : Nat} {k : Int} : kGt i o (.sh (.int k)) sl = gO2 i o k sl (ownL sl i) := rfl
def gO3 (i : Nat) (o : O) (fe : FE) (sl : Sl) : Option (List O) → Rs Sl Unit
  | some _ => (fe sl).bind (kGt i o)
  | none => .bad
@[simp] theorem gO3_r {i : Nat} {ls : List O} : gO3 i o fe sl (some ls) = (fe sl).bind (kGt i o) := rfl
@[simp] theorem gSt_r {i : Nat} : gSt i fe o sl = gO3 i o fe sl (ownL sl i) := by
  unfold gSt gO3
  cases ownL sl i with
  | none => rfl
  | some ls =>
    dsimp only
    congr
    funext k s
    unfold kGt gO2
    cases asI k <;> cases ownL s i <;> rfl
def kAu (i : Nat) (f : Int → Int → Int) (a : Int) : O → Sl → Rs Sl Fl := fun b s => match asI b with
  | some b => .ok .nx (s.set i (some (.sh (.int (f a b)))))
  | none => .bad
@[simp] theorem kAu_r {i : Nat} {f : Int → Int → Int} {a b : Int} : kAu i f a (.sh (.int b)) sl = .ok .nx (sl.set i (some (.sh (.int (f a b))))) := rfl
def auO (i : Nat) (f : Int → Int → Int) (fe : FE) (sl : Sl) : Option (Option O) → Rs Sl Fl
  | some (some (.sh (.int a))) => (fe sl).bind (kAu i f a)
  | _ => .bad
@[simp] theorem auO_r {i : Nat} {f : Int → Int → Int} {a : Int} : auO i f fe sl (some (some (.sh (.int a)))) = (fe sl).bind (kAu i f a) := rfl
@[simp] theorem sAug_r {i : Nat} {f : Int → Int → Int} : sAug i f fe sl = auO i f fe sl sl[i]? := by
  unfold sAug auO
  rcases sl[i]? with _ | _ | x
  · rfl
  · rfl
  · cases x with
    | sh d => cases d <;> rfl
    | lst _ => rfl
    | dct _ _ => rfl
def kTt : O → Sl → Rs Sl Bool := fun o s => ofO (truO o) s
@[simp] theorem kTt_r : kTt o sl = ofO (truO o) sl := rfl
@[simp] theorem tTr_r : tTr fe sl = (fe sl).bind kTt := rfl
end
@[simp] theorem d2_r (f : D → D → Option O) (a b : O) : d2 f a b = f (toD a) (toD b) := rfl
@[simp] theorem iD_r (f : Int → Int → D) (i j : Int) : iD f (.int i) (.int j) = some (.sh (f i j)) := rfl
@[simp] theorem iC_r (C : Int → Int → Bool) (f : Int → Int → Int) (i j : Int) : iC C f (.int i) (.int j) = if C i j = true then some (.sh (.int (f i j))) else none := rfl
@[simp] theorem mulD_r (i j : Int) : mulD (.int i) (.int j) = if (small i || small j) = true then some (.sh (.int (i * j))) else none := rfl
@[simp] theorem addD_i (i j : Int) : addD (.int i) (.int j) = some (.sh (.int (i + j))) := rfl
@[simp] theorem addD_l (a b : List D) : addD (.lst a) (.lst b) = if a.length + b.length ≤ 100000 then some (.lst ((a ++ b).map O.sh)) else none := rfl
@[simp] theorem addD_t (a b : List D) : addD (.tup a) (.tup b) = if a.length + b.length ≤ 100000 then some (.sh (.tup (a ++ b))) else none := rfl
theorem okD_int (i : Int) : okD (.int i) = true := flat_okD (n := 0) rfl (by decide)
theorem okD_bl (i : Bool) : okD (.bl i) = true := flat_okD (n := 0) rfl (by decide)
theorem okD_non : okD .non = true := flat_okD (n := 0) rfl (by decide)
@[simp] theorem eqD_i (i j : Int) : eqD (.int i) (.int j) = some (.sh (.bl (decide (i = j)))) := by
  unfold eqD
  rw [okD_int, okD_int, Bool.and_self, if_pos rfl, eqv_int]
@[simp] theorem neD_i (i j : Int) : neD (.int i) (.int j) = some (.sh (.bl (!decide (i = j)))) := by
  unfold neD
  rw [okD_int, okD_int, Bool.and_self, if_pos rfl, eqv_int]
theorem eqv_bl (i j : Bool) : D.eqv (.bl i) (.bl j) = (i == j) := by simp [D.eqv, toPy, PyData.eqv]
@[simp] theorem eqD_b (i j : Bool) : eqD (.bl i) (.bl j) = some (.sh (.bl (i == j))) := by
  unfold eqD
  rw [okD_bl, okD_bl, Bool.and_self, if_pos rfl, eqv_bl]
@[simp] theorem neD_b (i j : Bool) : neD (.bl i) (.bl j) = some (.sh (.bl (!(i == j)))) := by
  unfold neD
  rw [okD_bl, okD_bl, Bool.and_self, if_pos rfl, eqv_bl]
@[simp] theorem ixD_r (d : D) (i : Int) : ixD d (.int i) = match items d with
  | some ds => (atI ds i).map O.sh
  | none => none := rfl
theorem atI_at {α : Type} {xs : List α} {i : Int} (k : Nat) (h : i = (k : Int)) {x : α} (hx : xs[k]? = some x) : atI xs i = some x := by
  subst h
  exact atI_nat hx
@[simp] theorem atI0 {α : Type} (a : α) (l : List α) : atI (a :: l) 0 = some a := atI_nat (j := 0) rfl
@[simp] theorem atI1 {α : Type} (a b : α) (l : List α) : atI (a :: b :: l) 1 = some b := atI_nat (j := 1) rfl
@[simp] theorem atI2 {α : Type} (a b c : α) (l : List α) : atI (a :: b :: c :: l) 2 = some c := atI_nat (j := 2) rfl
@[simp] theorem lenD_lst (ds : List D) : lenD (.lst ds) = some (.sh (.int (ds.length : Nat))) := rfl
@[simp] theorem lenD_tup (ds : List D) : lenD (.tup ds) = some (.sh (.int (ds.length : Nat))) := rfl
@[simp] theorem lenD_scr (ns : List Int) : lenD (.scr ns) = some (.sh (.int (ns.length : Nat))) := by
  unfold lenD
  rw [items_scr]
  simp
@[simp] theorem absD_r (i : Int) : absD (.int i) = some (.sh (.int (if i < 0 then -i else i))) := rfl
@[simp] theorem intD_i (i : Int) : intD (.int i) = some (.sh (.int i)) := rfl
@[simp] theorem intD_b (b : Bool) : intD (.bl b) = some (.sh (.int (if b then 1 else 0))) := rfl
@[simp] theorem isND_r (neg : Bool) (a : D) : isND neg a .non = some (.sh (.bl (if neg then !isNon a else isNon a))) := rfl
@[simp] theorem isNon_i (i : Int) : isNon (.int i) = false := rfl
@[simp] theorem isNon_n : isNon .non = true := rfl
@[simp] theorem isNon_t (ds : List D) : isNon (.tup ds) = false := rfl
@[simp] theorem isNon_l (ds : List D) : isNon (.lst ds) = false := rfl
@[simp] theorem isNon_s (x : Str) : isNon (.str x) = false := rfl
@[simp] theorem isNon_b (b : Bool) : isNon (.bl b) = false := rfl
@[simp] theorem tyD_i (i : Int) : tyD (.int i) = "int" := rfl
@[simp] theorem tyD_n : tyD .non = "NoneType" := rfl
@[simp] theorem tyD_t (ds : List D) : tyD (.tup ds) = "tuple" := rfl
@[simp] theorem tyD_l (ds : List D) : tyD (.lst ds) = "list" := rfl
@[simp] theorem tyD_b (b : Bool) : tyD (.bl b) = "bool" := rfl
@[simp] theorem tyD_s (b : Str) : tyD (.str b) = "str" := rfl
@[simp] theorem indep_i (i : Int) : indep (.sh (.int i)) = true := rfl
@[simp] theorem indep_b (i : Bool) : indep (.sh (.bl i)) = true := rfl
@[simp] theorem indep_n : indep (.sh .non) = true := rfl
@[simp] theorem hide_nil : hide [] = [] := rfl
@[simp] theorem hide_lst (os : List O) (sl : Sl) : hide (some (.lst os) :: sl) = none :: hide sl := rfl
@[simp] theorem hide_sh (d : D) (sl : Sl) : hide (some (.sh d) :: sl) = some (.sh d) :: hide sl := rfl
@[simp] theorem hide_non (sl : Sl) : hide (none :: sl) = none :: hide sl := rfl
def hid : O → Option O
  | .lst _ => none
  | .dct _ _ => none
  | o => some o
@[simp] theorem hid_lst (os : List O) : hid (.lst os) = none := rfl
@[simp] theorem hid_sh (d : D) : hid (.sh d) = some (.sh d) := rfl
@[simp] theorem hide_opq (o : O) (sl : Sl) : hide (some o :: sl) = hid o :: hide sl := by cases o <;> rfl
theorem eraseIdx_map {α β : Type} (f : α → β) : ∀ (l : List α) (k : Nat), (l.map f).eraseIdx k = (l.eraseIdx k).map f
  | [], k => by simp
  | a :: l, 0 => by simp
  | a :: l, k + 1 => by simp [eraseIdx_map f l k]
theorem cons_eraseIdx_perm {α : Type} : ∀ (l : List α) (j : Nat) (h : j < l.length), (l[j] :: l.eraseIdx j).Perm l
  | a :: l, 0, h => by simp
  | a :: l, j + 1, h => by
    simp only [List.getElem_cons_succ, List.eraseIdx_cons_succ]
    exact (List.Perm.swap _ _ _).trans ((cons_eraseIdx_perm l j (by simpa using h)).cons a)
@[simp] theorem mApp_r (ls : List O) (o : O) : mApp ls [o] = if ls.length < 100000 then some (.sh .non, ls ++ [o]) else none := rfl
@[simp] theorem truO_l (ds : List D) : truO (.sh (.lst ds)) = some (!ds.isEmpty) := rfl
@[simp] theorem truO_t (ds : List D) : truO (.sh (.tup ds)) = some (!ds.isEmpty) := rfl
@[simp] theorem truO_o (os : List O) : truO (.lst os) = some (!(toDs os).isEmpty) := rfl
@[simp] theorem toDs_rev : ∀ os : List O, toDs os.reverse = (toDs os).reverse
  | [] => rfl
  | o :: os => by rw [List.reverse_cons, toDs_app, toDs_rev os, toDs_cons, toDs_nil, toDs_cons, List.reverse_cons]
/-! ### loops, a turn at a time -/
section
variable {ft : FT} {fb : FS} {fg : FG} {s s1 s2 s3 : Sl} {m : Nat} {o : O} {d : D} {ds : List D}
theorem whL_step (h1 : ft s = .ok true s1) (h2 : fb s1 = .ok .nx s2) : whL ft fb (m + 1) s = whL ft fb m s2 := by
  show (ft s).bind _ = _
  rw [h1]
  show (fb s1).bind _ = _
  rw [h2]
  rfl
theorem whL_stop (h1 : ft s = .ok false s1) : whL ft fb (m + 1) s = .ok .nx s1 := by
  show (ft s).bind _ = _
  rw [h1]
  rfl
theorem whL_ret (h1 : ft s = .ok true s1) (h2 : fb s1 = .ok (.rt o) s2) : whL ft fb (m + 1) s = .ok (.rt o) s2 := by
  show (ft s).bind _ = _
  rw [h1]
  show (fb s1).bind _ = _
  rw [h2]
  rfl
@[simp] theorem forL_nil : forL fg fb [] s = .ok .nx s := rfl
theorem forL_step (h1 : fg (.sh d) s = .ok () s1) (h2 : fb s1 = .ok .nx s2) : forL fg fb (d :: ds) s = forL fg fb ds s2 := by
  show (fg (.sh d) s).bind _ = _
  rw [h1]
  show (fb s1).bind _ = _
  rw [h2]
  rfl
theorem forL_cont (h1 : fg (.sh d) s = .ok () s1) (h2 : fb s1 = .ok .ct s2) : forL fg fb (d :: ds) s = forL fg fb ds s2 := by
  show (fg (.sh d) s).bind _ = _
  rw [h1]
  show (fb s1).bind _ = _
  rw [h2]
  rfl
theorem forL_ret (h1 : fg (.sh d) s = .ok () s1) (h2 : fb s1 = .ok (.rt o) s2) : forL fg fb (d :: ds) s = .ok (.rt o) s2 := by
  show (fg (.sh d) s).bind _ = _
  rw [h1]
  show (fb s1).bind _ = _
  rw [h2]
  rfl
theorem forL_brk (h1 : fg (.sh d) s = .ok () s1) (h2 : fb s1 = .ok .bk s2) : forL fg fb (d :: ds) s = .ok .nx s2 := by
  show (fg (.sh d) s).bind _ = _
  rw [h1]
  show (fb s1).bind _ = _
  rw [h2]
  rfl
/-- by what the slots are between the turns -/
theorem forL_st (st : Nat → Sl) (all : List D) (h : ∀ i d, all[i]? = some d → (fg (.sh d) (st i)).bind (fun _ s => fb s) = .ok .nx (st (i + 1))) : forL fg fb all (st 0) = .ok .nx (st all.length) := by
  have : ∀ (ds : List D) (i : Nat), all.drop i = ds → forL fg fb ds (st i) = .ok .nx (st (i + ds.length)) := by
    intro ds
    induction ds with
    | nil => intro i _; rfl
    | cons d ds ih =>
      intro i e
      have hd : all[i]? = some d := by
        have : (all.drop i)[0]? = some d := by rw [e]; rfl
        rw [List.getElem?_drop] at this
        simpa using this
      have e2 : all.drop (i + 1) = ds := by
        rw [← List.drop_drop, e]
        rfl
      have h1 := h i d hd
      show (fg (.sh d) (st i)).bind _ = _
      cases hg : fg (.sh d) (st i) with
      | bad => rw [hg] at h1; cases h1
      | ex x s => rw [hg] at h1; cases h1
      | ok u s =>
        rw [hg] at h1
        show (fb s).bind _ = _
        rw [show fb s = _ from h1]
        show forL fg fb ds (st (i + 1)) = _
        rw [ih (i + 1) e2, List.length_cons]
        congr 2
        omega
  have := this all 0 rfl
  rw [Nat.zero_add] at this
  exact this
/-- a comprehension whose elements come by places -/
theorem lcL_st {own : List Nat} {ftt : FT} {fe : FE} (st : Nat → Sl) (f : Nat → O) (all : List D) (hl : all.length ≤ 99999)
    (h : ∀ i d, all[i]? = some d → (fg (.sh d) (st i)).bind (fun _ s => (ftt s).bind fun b s2 => if b = true then (fe s2).bind fun o s3 => .ok o (wipeS s3 own) else .bad) = .ok (f i) (st (i + 1))) : lcL own fg ftt fe all [] (st 0) = .ok (.lst ((List.range all.length).map f)) (st all.length) := by
  have : ∀ (ds : List D) (i : Nat), all.drop i = ds → i + ds.length = all.length → lcL own fg ftt fe ds ((List.range i).map f) (st i) = .ok (.lst ((List.range (i + ds.length)).map f)) (st (i + ds.length)) := by
    intro ds
    induction ds with
    | nil => intro i _ _; rfl
    | cons d ds ih =>
      intro i e el
      have hd : all[i]? = some d := by
        have : (all.drop i)[0]? = some d := by rw [e]; rfl
        rw [List.getElem?_drop] at this
        simpa using this
      have e2 : all.drop (i + 1) = ds := by
        rw [← List.drop_drop, e]
        rfl
      have h1 := h i d hd
      show (fg (.sh d) (st i)).bind _ = _
      cases hg : fg (.sh d) (st i) with
      | bad => rw [hg] at h1; cases h1
      | ex x s => rw [hg] at h1; cases h1
      | ok u s =>
        rw [hg] at h1
        dsimp only [Rs.bind] at h1
        show (ftt s).bind _ = _
        cases ht : ftt s with
        | bad => rw [ht] at h1; cases h1
        | ex x s => rw [ht] at h1; cases h1
        | ok b s2 =>
          rw [ht] at h1
          dsimp only at h1
          show (if b = true then _ else _) = _
          cases b with
          | false =>
            rw [if_neg Bool.false_ne_true] at h1
            cases h1
          | true =>
            rw [if_pos rfl] at h1 ⊢
            cases hq : fe s2 with
            | bad => rw [hq] at h1; cases h1
            | ex x s => rw [hq] at h1; cases h1
            | ok o s3 =>
              rw [hq] at h1
              dsimp only at h1
              simp only [Rs.ok.injEq] at h1
              obtain ⟨rfl, h2⟩ := h1
              show (if _ then _ else _) = _
              rw [if_pos (by rw [List.length_map, List.length_range]; rw [List.length_cons] at el; omega), h2]
              have e3 : (List.range i).map f ++ [f i] = (List.range (i + 1)).map f := by
                rw [List.range_succ, List.map_append]
                rfl
              rw [e3, ih (i + 1) e2 (by rw [List.length_cons] at el; omega), List.length_cons]
              rw [show i + 1 + ds.length = i + (ds.length + 1) by omega]
  have := this all 0 rfl (by omega)
  rw [Nat.zero_add] at this
  exact this
end
/-! ### a call reckoned -/
section
variable {C : Con} {s : Sl}
@[simp] theorem mkC_n {n m : Nat} {fx : List Nat} {b : FS} : (mkC n m fx b).n = n := rfl
@[simp] theorem mkC_fx {n m : Nat} {fx : List Nat} {b : FS} : (mkC n m fx b).fx = fx := rfl
@[simp] theorem posA_nil {n : Nat} : posA [] n = [] := rfl
@[simp] theorem posA_v {d : D} {as : List Ar} {n : Nat} : posA (.v d :: as) n = posA as (n + 1) := rfl
@[simp] theorem posA_l {i : Nat} {as : List Ar} {n : Nat} : posA (.l i :: as) n = n :: posA as (n + 1) := rfl
@[simp] theorem lentA_nil : lentA [] = [] := rfl
@[simp] theorem lentA_v {d : D} {as : List Ar} : lentA (.v d :: as) = lentA as := rfl
@[simp] theorem lentA_l {i : Nat} {as : List Ar} : lentA (.l i :: as) = i :: lentA as := rfl
@[simp] theorem fillA_nil {ls : List O} : fillA [] ls = [] := rfl
@[simp] theorem fillA_v {d : D} {as : List Ar} {ls : List O} : fillA (.v d :: as) ls = .sh d :: fillA as ls := rfl
@[simp] theorem fillA_l {i : Nat} {as : List Ar} {l : O} {ls : List O} : fillA (.l i :: as) (l :: ls) = l :: fillA as ls := rfl
@[simp] theorem runA_r {as : List Ar} : runA C as s = match takeL (lentA as) s with
  | some (ls, s2) => match C.run (fillA as ls) with
    | .ok o ls' => if ls'.length = (lentA as).length then .ok o (putL (lentA as) ls' s2) else .bad
    | .ex x ls' => .ex x (putL (lentA as) ls' s2)
    | .bad => .bad
  | none => .bad := rfl
@[simp] theorem takeL_nil : takeL [] s = some ([], s) := rfl
@[simp] theorem takeL_cons {i : Nat} {is : List Nat} : takeL (i :: is) s = match s[i]? with
    | some (some o) => match takeL is (s.set i none) with
      | some (ls, s2) => some (o :: ls, s2)
      | none => none
    | _ => none := rfl
@[simp] theorem putL_nil {ls : List O} : putL [] ls s = s := by cases ls <;> rfl
@[simp] theorem putL_cons {i : Nat} {is : List Nat} {o : O} {os : List O} : putL (i :: is) (o :: os) s = putL is os (s.set i (some o)) := rfl
theorem run_mk {n m : Nat} {fx : List Nat} {b : FS} {os : List O} : (mkC n m fx b).run os = match b (os.map some ++ List.replicate m none) with
  | .ok (.rt o) s => finF fx o s
  | .ok .nx s => finF fx (.sh .non) s
  | .ok .bk _ => .bad
  | .ok .ct _ => .bad
  | .ex x s => match takeL fx s with
    | some (ls, _) => .ex x ls
    | none => .bad
  | .bad => .bad := rfl
/-- a def's run, by its body's -/
theorem run_rt {n m : Nat} {fx : List Nat} {b : FS} {os : List O} {o : O} {s2 s3 : Sl} {ls : List O} (h : b (os.map some ++ List.replicate m none) = .ok (.rt o) s2) (h2 : takeL fx s2 = some (ls, s3)) : (mkC n m fx b).run os = .ok o ls := by
  rw [run_mk, h]
  show finF fx o s2 = _
  unfold finF
  rw [h2]
theorem run_nx {n m : Nat} {fx : List Nat} {b : FS} {os : List O} {s2 s3 : Sl} {ls : List O} (h : b (os.map some ++ List.replicate m none) = .ok .nx s2) (h2 : takeL fx s2 = some (ls, s3)) : (mkC n m fx b).run os = .ok (.sh .non) ls := by
  rw [run_mk, h]
  show finF fx _ s2 = _
  unfold finF
  rw [h2]
end
end TX
end

section
/-! What the draws need, whatever the law. -/
namespace TX
open PySem PySem.Spec PyProof.Rows L2
def boxO (x y z : Int) : O := .lst [.sh (.int x), .sh (.int y), .sh (.int z)]
def BX (b : O) (n : Int) : Prop := ∃ x y z, b = boxO x y z ∧ 0 ≤ y ∧ y < 2147483549 ∧ 0 ≤ z ∧ z ≤ n
theorem BX.mono {b : O} {n m : Int} (h : BX b n) (l : n ≤ m) : BX b m := by
  obtain ⟨x, y, z, h1, h2, h3, h4, h5⟩ := h
  exact ⟨x, y, z, h1, h2, h3, h4, by omega⟩
theorem okD_ints (ns : List Int) : okD (.lst (ns.map D.int)) = true := flat_okD (n := 1) (by simp [flatN]) (by decide)
def rowOk (most : Nat) (ns : List Int) : Prop := 1 ≤ ns.length ∧ ns.length ≤ most ∧ ns.Nodup ∧ ∀ x ∈ ns, 1 ≤ x ∧ x ≤ 1000000000
theorem rowOk.perm {m : Nat} {a b : List Int} (h : rowOk m a) (p : b.Perm a) : rowOk m b := ⟨by rw [p.length_eq]; exact h.1, by rw [p.length_eq]; exact h.2.1, p.nodup_iff.mpr h.2.2.1, fun x hx => h.2.2.2 x (p.mem_iff.mp hx)⟩
theorem ev_od : ∀ n, n < 13 → (stepIx none none (some 2) n ++ stepIx (some 1) none (some 2) n).isPerm (List.range n) = true := by decide
theorem pick_all {α : Type} (xs : List α) : pickL (List.range xs.length) xs = xs := by
  unfold pickL
  apply List.ext_getElem?
  intro i
  have : ∀ (n : Nat) (ds : List α), n ≤ ds.length → (List.range n).filterMap (fun i => ds[i]?) = ds.take n := by
    intro n ds
    induction n with
    | zero => intro _; simp
    | succ n ih =>
      intro h
      rw [List.range_succ, List.filterMap_append, ih (by omega), List.take_add_one]
      cases hh : ds[n]? <;> simp [hh]
  rw [this _ _ (Nat.le_refl _), List.take_length]
theorem ev_od_perm {α : Type} (xs : List α) (h : xs.length < 13) : (pickL (stepIx none none (some 2) xs.length) xs ++ (pickL (stepIx (some 1) none (some 2) xs.length) xs).reverse).Perm xs := by
  refine (List.Perm.append_left _ (List.reverse_perm _)).trans ?_
  have e : pickL (stepIx none none (some 2) xs.length) xs ++ pickL (stepIx (some 1) none (some 2) xs.length) xs = pickL (stepIx none none (some 2) xs.length ++ stepIx (some 1) none (some 2) xs.length) xs := by
    unfold pickL
    rw [List.filterMap_append]
  rw [e]
  have p := List.isPerm_iff.mp (ev_od xs.length h)
  have q := pick_all xs
  unfold pickL at q ⊢
  refine (p.filterMap _).trans ?_
  rw [q]
theorem pick_map {α β : Type} (f : α → β) (is : List Nat) (xs : List α) : pickL is (xs.map f) = (pickL is xs).map f := by
  unfold pickL
  rw [List.map_filterMap]
  congr 1
  funext i
  rw [List.getElem?_map]
def unD : D → Int
  | .int i => i
  | _ => 0
theorem perm_ints {es : List D} {xs : List Int} (p : es.Perm (xs.map D.int)) : ∃ ys : List Int, es = ys.map D.int ∧ ys.Perm xs := by
  refine ⟨es.map unD, ?_, ?_⟩
  · have : ∀ l : List D, (∀ d ∈ l, ∃ i, d = D.int i) → l = (l.map unD).map D.int := by
      intro l
      induction l with
      | nil => intro _; rfl
      | cons d l ih =>
        intro h
        obtain ⟨i, rfl⟩ := h _ (List.mem_cons_self)
        rw [List.map_cons, List.map_cons, ← ih fun d hd => h d (List.mem_cons_of_mem _ hd)]
        rfl
    refine this es fun d hd => ?_
    obtain ⟨i, _, rfl⟩ := List.mem_map.mp (p.mem_iff.mp hd)
    exact ⟨i, rfl⟩
  · have q := p.map unD
    rw [List.map_map] at q
    rw [show (unD ∘ D.int) = id from rfl, List.map_id] at q
    exact q
/-- values of so many levels, nothing but what is compared -/
def plN : Nat → D → Bool
  | _, .non => true
  | _, .bl _ => true
  | _, .int _ => true
  | _, .str x => x.cps.all (· < 0x110000)
  | n + 1, .lst ds => decide (ds.length ≤ 9999) && ds.all (plN n)
  | n + 1, .tup ds => decide (ds.length ≤ 9999) && ds.all (plN n)
  | _, _ => false
theorem plN_flat : ∀ (n : Nat) (d : D), plN n d = true → flatN n d = true
  | 0, d, h => by cases d <;> simp_all [plN, flatN]
  | n + 1, d, h => by
    cases d with
    | lst ds =>
      simp only [plN, flatN, List.all_eq_true, Bool.and_eq_true] at h ⊢
      exact fun x hx => plN_flat n x (h.2 x hx)
    | tup ds =>
      simp only [plN, flatN, List.all_eq_true, Bool.and_eq_true] at h ⊢
      exact fun x hx => plN_flat n x (h.2 x hx)
    | _ => simp_all [plN, flatN]
theorem eqD_self {n : Nat} {d : D} (h : plN n d = true) (hn : n ≤ 60) : eqD d d = some (.sh (.bl true)) := by
  unfold eqD
  rw [flat_okD (plN_flat n d h) hn, Bool.and_self, if_pos rfl, show D.eqv d d = true from eqv_same d]
theorem zip_self_get (ds : List D) (i : Nat) {x : D} (h : (zipD ds ds)[i]? = some x) : ∃ d, ds[i]? = some d ∧ x = .raw [d, d] := by
  rw [zipD_get] at h
  cases z : ds[i]? with
  | none => rw [z] at h; cases h
  | some d =>
    rw [z] at h
    cases h
    exact ⟨d, rfl, rfl⟩
end TX
namespace TX
open PySem PySem.Spec PyProof.Rows L2
theorem rngD_get {lo : Int} {n i : Nat} {d : D} (h : (rngD lo n)[i]? = some d) : d = .int (lo + (i : Int)) ∧ i < n := by
  unfold rngD at h
  rw [List.getElem?_map] at h
  by_cases z : i < n
  · rw [List.getElem?_range z] at h
    cases h
    exact ⟨rfl, z⟩
  · rw [List.getElem?_eq_none (by rw [List.length_range]; omega)] at h
    cases h
theorem rngD_len (lo : Int) (n : Nat) : (rngD lo n).length = n := by unfold rngD; rw [List.length_map, List.length_range]
end TX
namespace TX
open PySem PySem.Spec PyProof.Rows L2
theorem okD_pair (a b : Int) : okD (.tup [.int a, .int b]) = true := flat_okD (n := 1) (by simp [flatN]) (by decide)
theorem eqv_pair (a b c d : Int) : D.eqv (.tup [.int a, .int b]) (.tup [.int c, .int d]) = (decide (a = c) && decide (b = d)) := by
  have e1 := eqv_int a c
  have e2 := eqv_int b d
  unfold D.eqv at e1 e2 ⊢
  simp only [toPy, toPys, PyData.eqv, PyData.eqvAll, Bool.and_true] at e1 e2 ⊢
  rw [e1, e2]
theorem eqD_pair (a b c d : Int) : eqD (.tup [.int a, .int b]) (.tup [.int c, .int d]) = some (.sh (.bl (decide (a = c) && decide (b = d)))) := by
  unfold eqD
  rw [okD_pair, okD_pair, Bool.and_self, if_pos rfl, eqv_pair]
theorem neD_pair (a b c d : Int) : neD (.tup [.int a, .int b]) (.tup [.int c, .int d]) = some (.sh (.bl (!(decide (a = c) && decide (b = d))))) := by
  unfold neD
  rw [okD_pair, okD_pair, Bool.and_self, if_pos rfl, eqv_pair]
/-! ### a law: so many boxes, so many turns of right with each -/
def DrawsOk (R : Con) (cost : Int) : Prop := ∀ b n, BX b n → n ≤ 100000000 → ∃ b', R.run [b] = .ok (.sh (.bl true)) [b'] ∧ BX b' (n + cost)
theorem turns_run {R : Con} {cost : Int} (hn : R.n = 1) (hf : R.fx = [0]) (hR : DrawsOk R cost) (hc : 0 ≤ cost) (hc2 : cost ≤ 1000000) {a1 a2 : D} : ∀ (k : Nat) (ds : List D) (acc : List O) (b : O) (n : Int), ds.length = k → k + acc.length ≤ 20 → BX b n → n + 1000000 * k ≤ 100000000 →
    ∃ b', lcL [3] (gN 3) tY (eCall R (rL 2 rN)) ds acc [some (.sh a1), some (.sh a2), some b, none] = .ok (.lst (acc ++ (List.replicate k (O.sh (.bl true))))) [some (.sh a1), some (.sh a2), some b', none] ∧ BX b' (n + cost * k)
  | 0, ds, acc, b, n, hl, ha, hb, hn2 => by
    have e : ds = [] := List.length_eq_zero_iff.mp hl
    subst e
    refine ⟨b, ?_, hb.mono (by omega)⟩
    simp [lcL]
  | k + 1, d :: ds, acc, b, n, hl, ha, hb, hn2 => by
    obtain ⟨b1, e1, h1⟩ := hR b n hb (by omega)
    obtain ⟨b2, e2, h2⟩ := turns_run hn hf hR hc hc2 k ds (acc ++ [O.sh (.bl true)]) b1 (n + cost) (by simpa using hl) (by simp; omega) h1 (by omega)
    refine ⟨b2, ?_, h2.mono (by rw [Int.natCast_add, Int.mul_add]; omega)⟩
    have e3 : acc.length < 100000 := by omega
    show (gN 3 (.sh d) _).bind _ = _
    simp [hn, hf, e1, e3]
    rw [e2]
    simp [List.replicate_succ]
def lawFS (N M : Int) (B R : Con) : FS := (sSeq (sFor (iR1 (aC (eOp oAdd (eK (.int 1)) (eCB cMin2 (aC (eK (.int N)) (aC (eCB (c1 lenD) (aC (eVar 0) aN)) aN)))) aN)) (gN 1) (sEnd [1, 2] (sSeq (sAsg (eCall B (rV (eVar 0) (rV (eVar 1) rN))) (gN 2))
  (sIf (tN (eB (eCB (c1 allD) (aC (eLc [3] (iR1 (aC (eK (.int M)) aN)) (gN 3) tY (eCall R (rL 2 rN))) aN)))) (sRet (eK (.bl false))) sNx))))
  (sRet (eK (.bl true))))
theorem allD_true (k : Nat) : allD (.lst (toDs (List.replicate k (O.sh (.bl true))))) = some (.sh (.bl true)) := by
  have e1 : toDs (List.replicate k (O.sh (.bl true))) = (List.replicate k true).map D.bl := by
    induction k with
    | zero => rfl
    | succ k ih => rw [List.replicate_succ, toDs_cons, ih]; rfl
  rw [e1]
  unfold allD
  dsimp only
  rw [boolsOf_map]
  simp
theorem law_turn {B R : Con} {cost : Int} {M : Int} {m : Nat} {a d : D} {b : O} (hM : M = (m : Int)) (hm : m ≤ 10) (bn : B.n = 2) (bf : B.fx = []) (hn : R.n = 1) (hf : R.fx = [0]) (hR : DrawsOk R cost) (hc : 0 ≤ cost) (hc2 : cost ≤ 1000000) (hb : B.run [.sh a, .sh d] = .ok b []) (hB : BX b 0) :
    ((gN 1) (.sh d) [some (.sh a), none, none, none]).bind (fun _ s => sEnd [1, 2] (sSeq (sAsg (eCall B (rV (eVar 0) (rV (eVar 1) rN))) (gN 2)) (sIf (tN (eB (eCB (c1 allD) (aC (eLc [3] (iR1 (aC (eK (.int M)) aN)) (gN 3) tY (eCall R (rL 2 rN))) aN)))) (sRet (eK (.bl false))) sNx)) s) = .ok .nx [some (.sh a), none, none, none] := by
  obtain ⟨b', e, h'⟩ := turns_run (a1 := a) (a2 := d) hn hf hR hc hc2 m (rngD 0 M.toNat) [] b 0 (by rw [rngD_len, hM, Int.toNat_natCast]) (by simp; omega) hB (by omega)
  have ir : inR M = true := inR_of (by omega) (by omega)
  have az := allD_true m
  rw [List.nil_append] at e
  simp [bn, bf, hb, ir, e, az]
theorem law_run {B R : Con} {cost N M : Int} {m n : Nat} {ns : List Int} (hM : M = (m : Int)) (hm : m ≤ 10) (hN : N = (n : Int)) (hnn : n ≤ 10) (bn : B.n = 2) (bf : B.fx = []) (hn : R.n = 1) (hf : R.fx = [0]) (hR : DrawsOk R cost) (hc : 0 ≤ cost) (hc2 : cost ≤ 1000000)
    (hB : ∀ k : Nat, ∃ b, B.run [.sh (.scr ns), .sh (.int (k : Int))] = .ok b [] ∧ BX b 0) : lawFS N M B R [some (.sh (.scr ns)), none, none, none] = .ok (.rt (.sh (.bl true))) [some (.sh (.scr ns)), none, none, none] := by
  have key : ∀ t : Int, inR t = true → forL (gN 1) (sEnd [1, 2] (sSeq (sAsg (eCall B (rV (eVar 0) (rV (eVar 1) rN))) (gN 2)) (sIf (tN (eB (eCB (c1 allD) (aC (eLc [3] (iR1 (aC (eK (.int M)) aN)) (gN 3) tY (eCall R (rL 2 rN))) aN)))) (sRet (eK (.bl false))) sNx))) (rngD 0 t.toNat) [some (.sh (.scr ns)), none, none, none] = .ok .nx [some (.sh (.scr ns)), none, none, none] := fun t _ => by
    refine forL_st (fun _ : Nat => ([some (.sh (.scr ns)), none, none, none] : Sl)) (rngD 0 t.toNat) fun k d hd => ?_
    obtain ⟨rfl, hk⟩ := rngD_get hd
    rw [Int.zero_add]
    obtain ⟨b, e, h⟩ := hB k
    exact law_turn hM hm bn bf hn hf hR hc hc2 e h
  have el := lenD_scr ns
  obtain ⟨L, hL⟩ : ∃ L : Int, L = (ns.length : Int) := ⟨_, rfl⟩
  rw [← hL] at el
  have ir : inR (1 + if L < N then L else N) = true := inR_of (by split <;> omega) (by split <;> omega)
  have kz := key _ ir
  unfold lawFS
  generalize sEnd [1, 2] _ = body at kz ⊢
  simp [el, ir, kz, -lenD_scr]
end TX
end

section
namespace K70
open PySem PySem.Spec PyProof.Rows L2 TX
def topS (i : Nat) : Stmt := PySem.Challenge.pw_putinside_k70_whole_depths.main.body.getD i (.Pass ⟨0, 0, 0, 0⟩)
abbrev s_moves : Stmt := topS 3
theorem sc_moves : FnScope ["row", "history", "outer", "found", "gap", "one", "other", "above"] ["row", "history"] (defScope s_moves) := ⟨rfl, rfl, rfl, by decide +kernel, rfl, by decide +kernel, by decide +kernel⟩
abbrev s_nesting_after : Stmt := topS 5
theorem sc_nesting_after : FnScope ["row", "history", "holder", "one", "other"] ["row", "history"] (defScope s_nesting_after) := ⟨rfl, rfl, rfl, by decide +kernel, rfl, by decide +kernel, by decide +kernel⟩
abbrev s_check_place : Stmt := topS 6
theorem sc_check_place : FnScope ["row", "place"] ["row", "place"] (defScope s_check_place) := ⟨rfl, rfl, rfl, by decide +kernel, rfl, by decide +kernel, by decide +kernel⟩
abbrev s_around : Stmt := topS 7
theorem sc_around : FnScope ["row", "nesting", "place", "found", "above"] ["row", "nesting", "place"] (defScope s_around) := ⟨rfl, rfl, rfl, by decide +kernel, rfl, by decide +kernel, by decide +kernel⟩
abbrev s_rising : Stmt := topS 8
theorem sc_rising : FnScope ["row", "place", "others", "found", "most", "other"] ["row", "place", "others"] (defScope s_rising) := ⟨rfl, rfl, rfl, by decide +kernel, rfl, by decide +kernel, by decide +kernel⟩
abbrev s_holders : Stmt := topS 9
theorem sc_holders : FnScope ["row", "place", "left", "right"] ["row", "place"] (defScope s_holders) := ⟨rfl, rfl, rfl, by decide +kernel, rfl, by decide +kernel, by decide +kernel⟩
abbrev s_greatest_depth : Stmt := topS 11
theorem sc_greatest_depth : FnScope ["row", "place"] ["row", "place"] (defScope s_greatest_depth) := ⟨rfl, rfl, rfl, by decide +kernel, rfl, by decide +kernel, by decide +kernel⟩
abbrev s_deep_history : Stmt := topS 12
theorem sc_deep_history : FnScope ["row", "place", "first", "last", "history"] ["row", "place"] (defScope s_deep_history) := ⟨rfl, rfl, rfl, by decide +kernel, rfl, by decide +kernel, by decide +kernel⟩
abbrev s_fewest_moves : Stmt := topS 13
theorem sc_fewest_moves : FnScope ["row", "one", "other"] ["row", "one", "other"] (defScope s_fewest_moves) := ⟨rfl, rfl, rfl, by decide +kernel, rfl, by decide +kernel, by decide +kernel⟩
abbrev s_l_box : Stmt := topS 15
theorem sc_l_box : FnScope ["_law_script", "_law_k", "_law_cell"] ["_law_script", "_law_k"] (defScope s_l_box) := ⟨rfl, rfl, rfl, by decide +kernel, rfl, by decide +kernel, by decide +kernel⟩
abbrev s_l_take : Stmt := topS 16
theorem sc_l_take : FnScope ["_law_box_here", "_law_span", "_law_found", "_law_once"] ["_law_box_here", "_law_span"] (defScope s_l_take) := ⟨rfl, rfl, rfl, by decide +kernel, rfl, by decide +kernel, by decide +kernel⟩
abbrev s_l_pick : Stmt := topS 17
theorem sc_l_pick : FnScope ["_law_box_here", "_law_some"] ["_law_box_here", "_law_some"] (defScope s_l_pick) := ⟨rfl, rfl, rfl, by decide +kernel, rfl, by decide +kernel, by decide +kernel⟩
abbrev s_l_same : Stmt := topS 18
theorem sc_l_same : FnScope ["_law_found", "_law_due", "_law_mine", "_law_its"] ["_law_found", "_law_due"] (defScope s_l_same) := ⟨rfl, rfl, rfl, by decide +kernel, rfl, by decide +kernel, by decide +kernel⟩
abbrev s_l_shuffled : Stmt := topS 19
theorem sc_l_shuffled : FnScope ["_law_box_here", "_law_some", "_law_left", "_law_found"] ["_law_box_here", "_law_some"] (defScope s_l_shuffled) := ⟨rfl, rfl, rfl, by decide +kernel, rfl, by decide +kernel, by decide +kernel⟩
abbrev s_l_sizes : Stmt := topS 20
theorem sc_l_sizes : FnScope ["_law_box_here", "_law_most", "_law_count", "_law_crack", "_law_top_here", "_law_found", "_law_k", "_law_way"] ["_law_box_here", "_law_most"] (defScope s_l_sizes) := ⟨rfl, rfl, rfl, by decide +kernel, rfl, by decide +kernel, by decide +kernel⟩
abbrev s_l_runs : Stmt := topS 21
theorem sc_l_runs : FnScope ["_law_count", "_law_closed", "_law_found", "_law_spot"] ["_law_count", "_law_closed"] (defScope s_l_runs) := ⟨rfl, rfl, rfl, by decide +kernel, rfl, by decide +kernel, by decide +kernel⟩
abbrev s_l_top : Stmt := topS 22
theorem sc_l_top : FnScope ["_law_sizes_here", "_law_run", "_law_spot"] ["_law_sizes_here", "_law_run"] (defScope s_l_top) := ⟨rfl, rfl, rfl, by decide +kernel, rfl, by decide +kernel, by decide +kernel⟩
abbrev s_l_moved : Stmt := topS 23
theorem sc_l_moved : FnScope ["_law_sizes_here", "_law_closed", "_law_crack", "_law_tops", "_law_run"] ["_law_sizes_here", "_law_closed", "_law_crack"] (defScope s_l_moved) := ⟨rfl, rfl, rfl, by decide +kernel, rfl, by decide +kernel, by decide +kernel⟩
abbrev s_l_nest : Stmt := topS 24
theorem sc_l_nest : FnScope ["_law_sizes_here", "_law_tour", "_law_found", "_law_k", "_law_inner", "_law_upper"] ["_law_sizes_here", "_law_tour"] (defScope s_l_nest) := ⟨rfl, rfl, rfl, by decide +kernel, rfl, by decide +kernel, by decide +kernel⟩
abbrev s_l_climb : Stmt := topS 25
theorem sc_l_climb : FnScope ["_law_nest_here", "_law_spot", "_law_found"] ["_law_nest_here", "_law_spot"] (defScope s_l_climb) := ⟨rfl, rfl, rfl, by decide +kernel, rfl, by decide +kernel, by decide +kernel⟩
abbrev s_l_higher : Stmt := topS 26
theorem sc_l_higher : FnScope ["_law_sizes_here", "_law_spot", "_law_found", "_law_mate", "_law_inner", "_law_some"] ["_law_sizes_here", "_law_spot"] (defScope s_l_higher) := ⟨rfl, rfl, rfl, by decide +kernel, rfl, by decide +kernel, by decide +kernel⟩
abbrev s_l_wild : Stmt := topS 27
theorem sc_l_wild : FnScope ["_law_box_here", "_law_sizes_here", "_law_first", "_law_last", "_law_top_here", "_law_found", "_law_begin", "_law_end", "_law_far", "_law_some"] ["_law_box_here", "_law_sizes_here", "_law_first", "_law_last"] (defScope s_l_wild) := ⟨rfl, rfl, rfl, by decide +kernel, rfl, by decide +kernel, by decide +kernel⟩
abbrev s_l_some_nest : Stmt := topS 28
theorem sc_l_some_nest : FnScope ["_law_box_here", "_law_sizes_here", "_law_way", "_law_nest_here", "_law_begin", "_law_far", "_law_at", "_law_upper"] ["_law_box_here", "_law_sizes_here", "_law_way"] (defScope s_l_some_nest) := ⟨rfl, rfl, rfl, by decide +kernel, rfl, by decide +kernel, by decide +kernel⟩
abbrev s_l_right : Stmt := topS 29
theorem sc_l_right : FnScope ["_law_box_here", "_law_sizes_here", "_law_count", "_law_nest_here", "_law_at", "_law_above", "_law_tour", "_law_found", "_law_rising", "_law_first", "_law_last", "_law_low", "_law_k"] ["_law_box_here"] (defScope s_l_right) := ⟨rfl, rfl, rfl, by decide +kernel, rfl, by decide +kernel, by decide +kernel⟩
abbrev s_law : Stmt := topS 30
theorem sc_law : FnScope ["_law_script", "_law_k", "_law_box_here", "_law_turn"] ["_law_script"] (defScope s_law) := ⟨rfl, rfl, rfl, by decide +kernel, rfl, by decide +kernel, by decide +kernel⟩
structure Txt (K : PySem.W.Frag) (mg : Str → Option Value) where
  (f_moves : Addr) (d_moves : FuncData)
  (f_nesting_after : Addr) (d_nesting_after : FuncData)
  (f_check_place : Addr) (d_check_place : FuncData)
  (f_around : Addr) (d_around : FuncData)
  (f_rising : Addr) (d_rising : FuncData)
  (f_holders : Addr) (d_holders : FuncData)
  (f_greatest_depth : Addr) (d_greatest_depth : FuncData)
  (f_deep_history : Addr) (d_deep_history : FuncData)
  (f_fewest_moves : Addr) (d_fewest_moves : FuncData)
  (f_l_box : Addr) (d_l_box : FuncData)
  (f_l_take : Addr) (d_l_take : FuncData)
  (f_l_pick : Addr) (d_l_pick : FuncData)
  (f_l_same : Addr) (d_l_same : FuncData)
  (f_l_shuffled : Addr) (d_l_shuffled : FuncData)
  (f_l_sizes : Addr) (d_l_sizes : FuncData)
  (f_l_runs : Addr) (d_l_runs : FuncData)
  (f_l_top : Addr) (d_l_top : FuncData)
  (f_l_moved : Addr) (d_l_moved : FuncData)
  (f_l_nest : Addr) (d_l_nest : FuncData)
  (f_l_climb : Addr) (d_l_climb : FuncData)
  (f_l_higher : Addr) (d_l_higher : FuncData)
  (f_l_wild : Addr) (d_l_wild : FuncData)
  (f_l_some_nest : Addr) (d_l_some_nest : FuncData)
  (f_l_right : Addr) (d_l_right : FuncData)
  (f_law : Addr) (d_law : FuncData)
  F_moves : Fun K "moves" "moves" s_moves f_moves d_moves
  g_moves : mg "moves" = some (.ref f_moves)
  b_moves : Binds K d_moves ["row", "history"] []
  F_nesting_after : Fun K "nesting_after" "nesting_after" s_nesting_after f_nesting_after d_nesting_after
  g_nesting_after : mg "nesting_after" = some (.ref f_nesting_after)
  b_nesting_after : Binds K d_nesting_after ["row", "history"] []
  F_check_place : Fun K "check_place" "check_place" s_check_place f_check_place d_check_place
  g_check_place : mg "check_place" = some (.ref f_check_place)
  b_check_place : Binds K d_check_place ["row", "place"] []
  F_around : Fun K "around" "around" s_around f_around d_around
  g_around : mg "around" = some (.ref f_around)
  b_around : Binds K d_around ["row", "nesting", "place"] []
  F_rising : Fun K "rising" "rising" s_rising f_rising d_rising
  g_rising : mg "rising" = some (.ref f_rising)
  b_rising : Binds K d_rising ["row", "place", "others"] []
  F_holders : Fun K "holders" "holders" s_holders f_holders d_holders
  g_holders : mg "holders" = some (.ref f_holders)
  b_holders : Binds K d_holders ["row", "place"] []
  F_greatest_depth : Fun K "greatest_depth" "greatest_depth" s_greatest_depth f_greatest_depth d_greatest_depth
  g_greatest_depth : mg "greatest_depth" = some (.ref f_greatest_depth)
  b_greatest_depth : Binds K d_greatest_depth ["row", "place"] []
  F_deep_history : Fun K "deep_history" "deep_history" s_deep_history f_deep_history d_deep_history
  g_deep_history : mg "deep_history" = some (.ref f_deep_history)
  b_deep_history : Binds K d_deep_history ["row", "place"] []
  F_fewest_moves : Fun K "fewest_moves" "fewest_moves" s_fewest_moves f_fewest_moves d_fewest_moves
  g_fewest_moves : mg "fewest_moves" = some (.ref f_fewest_moves)
  b_fewest_moves : Binds K d_fewest_moves ["row", "one", "other"] []
  F_l_box : Fun K "_law_box" "_law_box" s_l_box f_l_box d_l_box
  g_l_box : mg "_law_box" = some (.ref f_l_box)
  b_l_box : Binds K d_l_box ["_law_script", "_law_k"] []
  F_l_take : Fun K "_law_take" "_law_take" s_l_take f_l_take d_l_take
  g_l_take : mg "_law_take" = some (.ref f_l_take)
  b_l_take : Binds K d_l_take ["_law_box_here", "_law_span"] []
  F_l_pick : Fun K "_law_pick" "_law_pick" s_l_pick f_l_pick d_l_pick
  g_l_pick : mg "_law_pick" = some (.ref f_l_pick)
  b_l_pick : Binds K d_l_pick ["_law_box_here", "_law_some"] []
  F_l_same : Fun K "_law_same" "_law_same" s_l_same f_l_same d_l_same
  g_l_same : mg "_law_same" = some (.ref f_l_same)
  b_l_same : Binds K d_l_same ["_law_found", "_law_due"] []
  F_l_shuffled : Fun K "_law_shuffled" "_law_shuffled" s_l_shuffled f_l_shuffled d_l_shuffled
  g_l_shuffled : mg "_law_shuffled" = some (.ref f_l_shuffled)
  b_l_shuffled : Binds K d_l_shuffled ["_law_box_here", "_law_some"] []
  F_l_sizes : Fun K "_law_sizes" "_law_sizes" s_l_sizes f_l_sizes d_l_sizes
  g_l_sizes : mg "_law_sizes" = some (.ref f_l_sizes)
  b_l_sizes : Binds K d_l_sizes ["_law_box_here", "_law_most"] []
  F_l_runs : Fun K "_law_runs" "_law_runs" s_l_runs f_l_runs d_l_runs
  g_l_runs : mg "_law_runs" = some (.ref f_l_runs)
  b_l_runs : Binds K d_l_runs ["_law_count", "_law_closed"] []
  F_l_top : Fun K "_law_top" "_law_top" s_l_top f_l_top d_l_top
  g_l_top : mg "_law_top" = some (.ref f_l_top)
  b_l_top : Binds K d_l_top ["_law_sizes_here", "_law_run"] []
  F_l_moved : Fun K "_law_moved" "_law_moved" s_l_moved f_l_moved d_l_moved
  g_l_moved : mg "_law_moved" = some (.ref f_l_moved)
  b_l_moved : Binds K d_l_moved ["_law_sizes_here", "_law_closed", "_law_crack"] []
  F_l_nest : Fun K "_law_nest" "_law_nest" s_l_nest f_l_nest d_l_nest
  g_l_nest : mg "_law_nest" = some (.ref f_l_nest)
  b_l_nest : Binds K d_l_nest ["_law_sizes_here", "_law_tour"] []
  F_l_climb : Fun K "_law_climb" "_law_climb" s_l_climb f_l_climb d_l_climb
  g_l_climb : mg "_law_climb" = some (.ref f_l_climb)
  b_l_climb : Binds K d_l_climb ["_law_nest_here", "_law_spot"] []
  F_l_higher : Fun K "_law_higher" "_law_higher" s_l_higher f_l_higher d_l_higher
  g_l_higher : mg "_law_higher" = some (.ref f_l_higher)
  b_l_higher : Binds K d_l_higher ["_law_sizes_here", "_law_spot"] []
  F_l_wild : Fun K "_law_wild" "_law_wild" s_l_wild f_l_wild d_l_wild
  g_l_wild : mg "_law_wild" = some (.ref f_l_wild)
  b_l_wild : Binds K d_l_wild ["_law_box_here", "_law_sizes_here", "_law_first", "_law_last"] []
  F_l_some_nest : Fun K "_law_some_nest" "_law_some_nest" s_l_some_nest f_l_some_nest d_l_some_nest
  g_l_some_nest : mg "_law_some_nest" = some (.ref f_l_some_nest)
  b_l_some_nest : Binds K d_l_some_nest ["_law_box_here", "_law_sizes_here", "_law_way"] []
  F_l_right : Fun K "_law_right" "_law_right" s_l_right f_l_right d_l_right
  g_l_right : mg "_law_right" = some (.ref f_l_right)
  b_l_right : Binds K d_l_right ["_law_box_here"] []
  F_law : Fun K "law" "law" s_law f_law d_law
  g_law : mg "law" = some (.ref f_law)
  b_law : Binds K d_law ["_law_script"] []
  m_abs : mg "abs" = none
  m_all : mg "all" = none
  m_bool : mg "bool" = none
  m_int : mg "int" = none
  m_isinstance : mg "isinstance" = none
  m_len : mg "len" = none
  m_list : mg "list" = none
  m_max : mg "max" = none
  m_min : mg "min" = none
  m_range : mg "range" = none
  m_sorted : mg "sorted" = none
  m_str : mg "str" = none
  m_tuple : mg "tuple" = none
  m_zip : mg "zip" = none
theorem all_txt {K : PySem.W.Frag} {h : Heap} {mg : Str → Option Value} (X : K.In h) (G : h.Ns mainGlobals mg)
    {a_moves : Addr} {od_moves an_moves : Option Addr} {sl_moves : Array (Option Value)} {oc_moves kV_moves dc_moves pm_moves cd_moves ct_moves : Value}
    {a_nesting_after : Addr} {od_nesting_after an_nesting_after : Option Addr} {sl_nesting_after : Array (Option Value)} {oc_nesting_after kV_nesting_after dc_nesting_after pm_nesting_after cd_nesting_after ct_nesting_after : Value}
    {a_check_place : Addr} {od_check_place an_check_place : Option Addr} {sl_check_place : Array (Option Value)} {oc_check_place kV_check_place dc_check_place pm_check_place cd_check_place ct_check_place : Value}
    {a_around : Addr} {od_around an_around : Option Addr} {sl_around : Array (Option Value)} {oc_around kV_around dc_around pm_around cd_around ct_around : Value}
    {a_rising : Addr} {od_rising an_rising : Option Addr} {sl_rising : Array (Option Value)} {oc_rising kV_rising dc_rising pm_rising cd_rising ct_rising : Value}
    {a_holders : Addr} {od_holders an_holders : Option Addr} {sl_holders : Array (Option Value)} {oc_holders kV_holders dc_holders pm_holders cd_holders ct_holders : Value}
    {a_greatest_depth : Addr} {od_greatest_depth an_greatest_depth : Option Addr} {sl_greatest_depth : Array (Option Value)} {oc_greatest_depth kV_greatest_depth dc_greatest_depth pm_greatest_depth cd_greatest_depth ct_greatest_depth : Value}
    {a_deep_history : Addr} {od_deep_history an_deep_history : Option Addr} {sl_deep_history : Array (Option Value)} {oc_deep_history kV_deep_history dc_deep_history pm_deep_history cd_deep_history ct_deep_history : Value}
    {a_fewest_moves : Addr} {od_fewest_moves an_fewest_moves : Option Addr} {sl_fewest_moves : Array (Option Value)} {oc_fewest_moves kV_fewest_moves dc_fewest_moves pm_fewest_moves cd_fewest_moves ct_fewest_moves : Value}
    {a_l_box : Addr} {od_l_box an_l_box : Option Addr} {sl_l_box : Array (Option Value)} {oc_l_box kV_l_box dc_l_box pm_l_box cd_l_box ct_l_box : Value}
    {a_l_take : Addr} {od_l_take an_l_take : Option Addr} {sl_l_take : Array (Option Value)} {oc_l_take kV_l_take dc_l_take pm_l_take cd_l_take ct_l_take : Value}
    {a_l_pick : Addr} {od_l_pick an_l_pick : Option Addr} {sl_l_pick : Array (Option Value)} {oc_l_pick kV_l_pick dc_l_pick pm_l_pick cd_l_pick ct_l_pick : Value}
    {a_l_same : Addr} {od_l_same an_l_same : Option Addr} {sl_l_same : Array (Option Value)} {oc_l_same kV_l_same dc_l_same pm_l_same cd_l_same ct_l_same : Value}
    {a_l_shuffled : Addr} {od_l_shuffled an_l_shuffled : Option Addr} {sl_l_shuffled : Array (Option Value)} {oc_l_shuffled kV_l_shuffled dc_l_shuffled pm_l_shuffled cd_l_shuffled ct_l_shuffled : Value}
    {a_l_sizes : Addr} {od_l_sizes an_l_sizes : Option Addr} {sl_l_sizes : Array (Option Value)} {oc_l_sizes kV_l_sizes dc_l_sizes pm_l_sizes cd_l_sizes ct_l_sizes : Value}
    {a_l_runs : Addr} {od_l_runs an_l_runs : Option Addr} {sl_l_runs : Array (Option Value)} {oc_l_runs kV_l_runs dc_l_runs pm_l_runs cd_l_runs ct_l_runs : Value}
    {a_l_top : Addr} {od_l_top an_l_top : Option Addr} {sl_l_top : Array (Option Value)} {oc_l_top kV_l_top dc_l_top pm_l_top cd_l_top ct_l_top : Value}
    {a_l_moved : Addr} {od_l_moved an_l_moved : Option Addr} {sl_l_moved : Array (Option Value)} {oc_l_moved kV_l_moved dc_l_moved pm_l_moved cd_l_moved ct_l_moved : Value}
    {a_l_nest : Addr} {od_l_nest an_l_nest : Option Addr} {sl_l_nest : Array (Option Value)} {oc_l_nest kV_l_nest dc_l_nest pm_l_nest cd_l_nest ct_l_nest : Value}
    {a_l_climb : Addr} {od_l_climb an_l_climb : Option Addr} {sl_l_climb : Array (Option Value)} {oc_l_climb kV_l_climb dc_l_climb pm_l_climb cd_l_climb ct_l_climb : Value}
    {a_l_higher : Addr} {od_l_higher an_l_higher : Option Addr} {sl_l_higher : Array (Option Value)} {oc_l_higher kV_l_higher dc_l_higher pm_l_higher cd_l_higher ct_l_higher : Value}
    {a_l_wild : Addr} {od_l_wild an_l_wild : Option Addr} {sl_l_wild : Array (Option Value)} {oc_l_wild kV_l_wild dc_l_wild pm_l_wild cd_l_wild ct_l_wild : Value}
    {a_l_some_nest : Addr} {od_l_some_nest an_l_some_nest : Option Addr} {sl_l_some_nest : Array (Option Value)} {oc_l_some_nest kV_l_some_nest dc_l_some_nest pm_l_some_nest cd_l_some_nest ct_l_some_nest : Value}
    {a_l_right : Addr} {od_l_right an_l_right : Option Addr} {sl_l_right : Array (Option Value)} {oc_l_right kV_l_right dc_l_right pm_l_right cd_l_right ct_l_right : Value}
    {a_law : Addr} {od_law an_law : Option Addr} {sl_law : Array (Option Value)} {oc_law kV_law dc_law pm_law cd_law ct_law : Value}
    (amoves : PySem.W.nsIn K mainGlobals "moves" = some (some (.ref a_moves))) (lmoves : K.lookup a_moves = some ⟨oc_moves, od_moves, .func (PySem.W.fnOf "moves" "moves" (defArgs s_moves) (defBody s_moves) (defScope s_moves) .none kV_moves dc_moves pm_moves an_moves cd_moves ct_moves), sl_moves⟩) (cmoves : PySem.W.codeIn K cd_moves "moves" = true) (kmoves : PySem.W.keepIn K (.ref a_moves) = true)
    (anesting_after : PySem.W.nsIn K mainGlobals "nesting_after" = some (some (.ref a_nesting_after))) (lnesting_after : K.lookup a_nesting_after = some ⟨oc_nesting_after, od_nesting_after, .func (PySem.W.fnOf "nesting_after" "nesting_after" (defArgs s_nesting_after) (defBody s_nesting_after) (defScope s_nesting_after) .none kV_nesting_after dc_nesting_after pm_nesting_after an_nesting_after cd_nesting_after ct_nesting_after), sl_nesting_after⟩) (cnesting_after : PySem.W.codeIn K cd_nesting_after "nesting_after" = true) (knesting_after : PySem.W.keepIn K (.ref a_nesting_after) = true)
    (acheck_place : PySem.W.nsIn K mainGlobals "check_place" = some (some (.ref a_check_place))) (lcheck_place : K.lookup a_check_place = some ⟨oc_check_place, od_check_place, .func (PySem.W.fnOf "check_place" "check_place" (defArgs s_check_place) (defBody s_check_place) (defScope s_check_place) .none kV_check_place dc_check_place pm_check_place an_check_place cd_check_place ct_check_place), sl_check_place⟩) (ccheck_place : PySem.W.codeIn K cd_check_place "check_place" = true) (kcheck_place : PySem.W.keepIn K (.ref a_check_place) = true)
    (aaround : PySem.W.nsIn K mainGlobals "around" = some (some (.ref a_around))) (laround : K.lookup a_around = some ⟨oc_around, od_around, .func (PySem.W.fnOf "around" "around" (defArgs s_around) (defBody s_around) (defScope s_around) .none kV_around dc_around pm_around an_around cd_around ct_around), sl_around⟩) (caround : PySem.W.codeIn K cd_around "around" = true) (karound : PySem.W.keepIn K (.ref a_around) = true)
    (arising : PySem.W.nsIn K mainGlobals "rising" = some (some (.ref a_rising))) (lrising : K.lookup a_rising = some ⟨oc_rising, od_rising, .func (PySem.W.fnOf "rising" "rising" (defArgs s_rising) (defBody s_rising) (defScope s_rising) .none kV_rising dc_rising pm_rising an_rising cd_rising ct_rising), sl_rising⟩) (crising : PySem.W.codeIn K cd_rising "rising" = true) (krising : PySem.W.keepIn K (.ref a_rising) = true)
    (aholders : PySem.W.nsIn K mainGlobals "holders" = some (some (.ref a_holders))) (lholders : K.lookup a_holders = some ⟨oc_holders, od_holders, .func (PySem.W.fnOf "holders" "holders" (defArgs s_holders) (defBody s_holders) (defScope s_holders) .none kV_holders dc_holders pm_holders an_holders cd_holders ct_holders), sl_holders⟩) (cholders : PySem.W.codeIn K cd_holders "holders" = true) (kholders : PySem.W.keepIn K (.ref a_holders) = true)
    (agreatest_depth : PySem.W.nsIn K mainGlobals "greatest_depth" = some (some (.ref a_greatest_depth))) (lgreatest_depth : K.lookup a_greatest_depth = some ⟨oc_greatest_depth, od_greatest_depth, .func (PySem.W.fnOf "greatest_depth" "greatest_depth" (defArgs s_greatest_depth) (defBody s_greatest_depth) (defScope s_greatest_depth) .none kV_greatest_depth dc_greatest_depth pm_greatest_depth an_greatest_depth cd_greatest_depth ct_greatest_depth), sl_greatest_depth⟩) (cgreatest_depth : PySem.W.codeIn K cd_greatest_depth "greatest_depth" = true) (kgreatest_depth : PySem.W.keepIn K (.ref a_greatest_depth) = true)
    (adeep_history : PySem.W.nsIn K mainGlobals "deep_history" = some (some (.ref a_deep_history))) (ldeep_history : K.lookup a_deep_history = some ⟨oc_deep_history, od_deep_history, .func (PySem.W.fnOf "deep_history" "deep_history" (defArgs s_deep_history) (defBody s_deep_history) (defScope s_deep_history) .none kV_deep_history dc_deep_history pm_deep_history an_deep_history cd_deep_history ct_deep_history), sl_deep_history⟩) (cdeep_history : PySem.W.codeIn K cd_deep_history "deep_history" = true) (kdeep_history : PySem.W.keepIn K (.ref a_deep_history) = true)
    (afewest_moves : PySem.W.nsIn K mainGlobals "fewest_moves" = some (some (.ref a_fewest_moves))) (lfewest_moves : K.lookup a_fewest_moves = some ⟨oc_fewest_moves, od_fewest_moves, .func (PySem.W.fnOf "fewest_moves" "fewest_moves" (defArgs s_fewest_moves) (defBody s_fewest_moves) (defScope s_fewest_moves) .none kV_fewest_moves dc_fewest_moves pm_fewest_moves an_fewest_moves cd_fewest_moves ct_fewest_moves), sl_fewest_moves⟩) (cfewest_moves : PySem.W.codeIn K cd_fewest_moves "fewest_moves" = true) (kfewest_moves : PySem.W.keepIn K (.ref a_fewest_moves) = true)
    (al_box : PySem.W.nsIn K mainGlobals "_law_box" = some (some (.ref a_l_box))) (ll_box : K.lookup a_l_box = some ⟨oc_l_box, od_l_box, .func (PySem.W.fnOf "_law_box" "_law_box" (defArgs s_l_box) (defBody s_l_box) (defScope s_l_box) .none kV_l_box dc_l_box pm_l_box an_l_box cd_l_box ct_l_box), sl_l_box⟩) (cl_box : PySem.W.codeIn K cd_l_box "_law_box" = true) (kl_box : PySem.W.keepIn K (.ref a_l_box) = true)
    (al_take : PySem.W.nsIn K mainGlobals "_law_take" = some (some (.ref a_l_take))) (ll_take : K.lookup a_l_take = some ⟨oc_l_take, od_l_take, .func (PySem.W.fnOf "_law_take" "_law_take" (defArgs s_l_take) (defBody s_l_take) (defScope s_l_take) .none kV_l_take dc_l_take pm_l_take an_l_take cd_l_take ct_l_take), sl_l_take⟩) (cl_take : PySem.W.codeIn K cd_l_take "_law_take" = true) (kl_take : PySem.W.keepIn K (.ref a_l_take) = true)
    (al_pick : PySem.W.nsIn K mainGlobals "_law_pick" = some (some (.ref a_l_pick))) (ll_pick : K.lookup a_l_pick = some ⟨oc_l_pick, od_l_pick, .func (PySem.W.fnOf "_law_pick" "_law_pick" (defArgs s_l_pick) (defBody s_l_pick) (defScope s_l_pick) .none kV_l_pick dc_l_pick pm_l_pick an_l_pick cd_l_pick ct_l_pick), sl_l_pick⟩) (cl_pick : PySem.W.codeIn K cd_l_pick "_law_pick" = true) (kl_pick : PySem.W.keepIn K (.ref a_l_pick) = true)
    (al_same : PySem.W.nsIn K mainGlobals "_law_same" = some (some (.ref a_l_same))) (ll_same : K.lookup a_l_same = some ⟨oc_l_same, od_l_same, .func (PySem.W.fnOf "_law_same" "_law_same" (defArgs s_l_same) (defBody s_l_same) (defScope s_l_same) .none kV_l_same dc_l_same pm_l_same an_l_same cd_l_same ct_l_same), sl_l_same⟩) (cl_same : PySem.W.codeIn K cd_l_same "_law_same" = true) (kl_same : PySem.W.keepIn K (.ref a_l_same) = true)
    (al_shuffled : PySem.W.nsIn K mainGlobals "_law_shuffled" = some (some (.ref a_l_shuffled))) (ll_shuffled : K.lookup a_l_shuffled = some ⟨oc_l_shuffled, od_l_shuffled, .func (PySem.W.fnOf "_law_shuffled" "_law_shuffled" (defArgs s_l_shuffled) (defBody s_l_shuffled) (defScope s_l_shuffled) .none kV_l_shuffled dc_l_shuffled pm_l_shuffled an_l_shuffled cd_l_shuffled ct_l_shuffled), sl_l_shuffled⟩) (cl_shuffled : PySem.W.codeIn K cd_l_shuffled "_law_shuffled" = true) (kl_shuffled : PySem.W.keepIn K (.ref a_l_shuffled) = true)
    (al_sizes : PySem.W.nsIn K mainGlobals "_law_sizes" = some (some (.ref a_l_sizes))) (ll_sizes : K.lookup a_l_sizes = some ⟨oc_l_sizes, od_l_sizes, .func (PySem.W.fnOf "_law_sizes" "_law_sizes" (defArgs s_l_sizes) (defBody s_l_sizes) (defScope s_l_sizes) .none kV_l_sizes dc_l_sizes pm_l_sizes an_l_sizes cd_l_sizes ct_l_sizes), sl_l_sizes⟩) (cl_sizes : PySem.W.codeIn K cd_l_sizes "_law_sizes" = true) (kl_sizes : PySem.W.keepIn K (.ref a_l_sizes) = true)
    (al_runs : PySem.W.nsIn K mainGlobals "_law_runs" = some (some (.ref a_l_runs))) (ll_runs : K.lookup a_l_runs = some ⟨oc_l_runs, od_l_runs, .func (PySem.W.fnOf "_law_runs" "_law_runs" (defArgs s_l_runs) (defBody s_l_runs) (defScope s_l_runs) .none kV_l_runs dc_l_runs pm_l_runs an_l_runs cd_l_runs ct_l_runs), sl_l_runs⟩) (cl_runs : PySem.W.codeIn K cd_l_runs "_law_runs" = true) (kl_runs : PySem.W.keepIn K (.ref a_l_runs) = true)
    (al_top : PySem.W.nsIn K mainGlobals "_law_top" = some (some (.ref a_l_top))) (ll_top : K.lookup a_l_top = some ⟨oc_l_top, od_l_top, .func (PySem.W.fnOf "_law_top" "_law_top" (defArgs s_l_top) (defBody s_l_top) (defScope s_l_top) .none kV_l_top dc_l_top pm_l_top an_l_top cd_l_top ct_l_top), sl_l_top⟩) (cl_top : PySem.W.codeIn K cd_l_top "_law_top" = true) (kl_top : PySem.W.keepIn K (.ref a_l_top) = true)
    (al_moved : PySem.W.nsIn K mainGlobals "_law_moved" = some (some (.ref a_l_moved))) (ll_moved : K.lookup a_l_moved = some ⟨oc_l_moved, od_l_moved, .func (PySem.W.fnOf "_law_moved" "_law_moved" (defArgs s_l_moved) (defBody s_l_moved) (defScope s_l_moved) .none kV_l_moved dc_l_moved pm_l_moved an_l_moved cd_l_moved ct_l_moved), sl_l_moved⟩) (cl_moved : PySem.W.codeIn K cd_l_moved "_law_moved" = true) (kl_moved : PySem.W.keepIn K (.ref a_l_moved) = true)
    (al_nest : PySem.W.nsIn K mainGlobals "_law_nest" = some (some (.ref a_l_nest))) (ll_nest : K.lookup a_l_nest = some ⟨oc_l_nest, od_l_nest, .func (PySem.W.fnOf "_law_nest" "_law_nest" (defArgs s_l_nest) (defBody s_l_nest) (defScope s_l_nest) .none kV_l_nest dc_l_nest pm_l_nest an_l_nest cd_l_nest ct_l_nest), sl_l_nest⟩) (cl_nest : PySem.W.codeIn K cd_l_nest "_law_nest" = true) (kl_nest : PySem.W.keepIn K (.ref a_l_nest) = true)
    (al_climb : PySem.W.nsIn K mainGlobals "_law_climb" = some (some (.ref a_l_climb))) (ll_climb : K.lookup a_l_climb = some ⟨oc_l_climb, od_l_climb, .func (PySem.W.fnOf "_law_climb" "_law_climb" (defArgs s_l_climb) (defBody s_l_climb) (defScope s_l_climb) .none kV_l_climb dc_l_climb pm_l_climb an_l_climb cd_l_climb ct_l_climb), sl_l_climb⟩) (cl_climb : PySem.W.codeIn K cd_l_climb "_law_climb" = true) (kl_climb : PySem.W.keepIn K (.ref a_l_climb) = true)
    (al_higher : PySem.W.nsIn K mainGlobals "_law_higher" = some (some (.ref a_l_higher))) (ll_higher : K.lookup a_l_higher = some ⟨oc_l_higher, od_l_higher, .func (PySem.W.fnOf "_law_higher" "_law_higher" (defArgs s_l_higher) (defBody s_l_higher) (defScope s_l_higher) .none kV_l_higher dc_l_higher pm_l_higher an_l_higher cd_l_higher ct_l_higher), sl_l_higher⟩) (cl_higher : PySem.W.codeIn K cd_l_higher "_law_higher" = true) (kl_higher : PySem.W.keepIn K (.ref a_l_higher) = true)
    (al_wild : PySem.W.nsIn K mainGlobals "_law_wild" = some (some (.ref a_l_wild))) (ll_wild : K.lookup a_l_wild = some ⟨oc_l_wild, od_l_wild, .func (PySem.W.fnOf "_law_wild" "_law_wild" (defArgs s_l_wild) (defBody s_l_wild) (defScope s_l_wild) .none kV_l_wild dc_l_wild pm_l_wild an_l_wild cd_l_wild ct_l_wild), sl_l_wild⟩) (cl_wild : PySem.W.codeIn K cd_l_wild "_law_wild" = true) (kl_wild : PySem.W.keepIn K (.ref a_l_wild) = true)
    (al_some_nest : PySem.W.nsIn K mainGlobals "_law_some_nest" = some (some (.ref a_l_some_nest))) (ll_some_nest : K.lookup a_l_some_nest = some ⟨oc_l_some_nest, od_l_some_nest, .func (PySem.W.fnOf "_law_some_nest" "_law_some_nest" (defArgs s_l_some_nest) (defBody s_l_some_nest) (defScope s_l_some_nest) .none kV_l_some_nest dc_l_some_nest pm_l_some_nest an_l_some_nest cd_l_some_nest ct_l_some_nest), sl_l_some_nest⟩) (cl_some_nest : PySem.W.codeIn K cd_l_some_nest "_law_some_nest" = true) (kl_some_nest : PySem.W.keepIn K (.ref a_l_some_nest) = true)
    (al_right : PySem.W.nsIn K mainGlobals "_law_right" = some (some (.ref a_l_right))) (ll_right : K.lookup a_l_right = some ⟨oc_l_right, od_l_right, .func (PySem.W.fnOf "_law_right" "_law_right" (defArgs s_l_right) (defBody s_l_right) (defScope s_l_right) .none kV_l_right dc_l_right pm_l_right an_l_right cd_l_right ct_l_right), sl_l_right⟩) (cl_right : PySem.W.codeIn K cd_l_right "_law_right" = true) (kl_right : PySem.W.keepIn K (.ref a_l_right) = true)
    (alaw : PySem.W.nsIn K mainGlobals "law" = some (some (.ref a_law))) (llaw : K.lookup a_law = some ⟨oc_law, od_law, .func (PySem.W.fnOf "law" "law" (defArgs s_law) (defBody s_law) (defScope s_law) .none kV_law dc_law pm_law an_law cd_law ct_law), sl_law⟩) (claw : PySem.W.codeIn K cd_law "law" = true) (klaw : PySem.W.keepIn K (.ref a_law) = true)
    (zabs : PySem.W.nsIn K mainGlobals "abs" = some none)
    (zall : PySem.W.nsIn K mainGlobals "all" = some none)
    (zbool : PySem.W.nsIn K mainGlobals "bool" = some none)
    (zint : PySem.W.nsIn K mainGlobals "int" = some none)
    (zisinstance : PySem.W.nsIn K mainGlobals "isinstance" = some none)
    (zlen : PySem.W.nsIn K mainGlobals "len" = some none)
    (zlist : PySem.W.nsIn K mainGlobals "list" = some none)
    (zmax : PySem.W.nsIn K mainGlobals "max" = some none)
    (zmin : PySem.W.nsIn K mainGlobals "min" = some none)
    (zrange : PySem.W.nsIn K mainGlobals "range" = some none)
    (zsorted : PySem.W.nsIn K mainGlobals "sorted" = some none)
    (zstr : PySem.W.nsIn K mainGlobals "str" = some none)
    (ztuple : PySem.W.nsIn K mainGlobals "tuple" = some none)
    (zzip : PySem.W.nsIn K mainGlobals "zip" = some none)
    : ∃ T : Txt K mg, (∀ fa, mg "law" = some (.ref fa) → fa = T.f_law) ∧ ∀ (s : Shared) (v : Value), BindsTo s T.d_law ⟨[v], []⟩ [("_law_script", v)] := by
  have Fmoves := fun_mk (st := s_moves) lmoves cmoves kmoves
  have Fnesting_after := fun_mk (st := s_nesting_after) lnesting_after cnesting_after knesting_after
  have Fcheck_place := fun_mk (st := s_check_place) lcheck_place ccheck_place kcheck_place
  have Faround := fun_mk (st := s_around) laround caround karound
  have Frising := fun_mk (st := s_rising) lrising crising krising
  have Fholders := fun_mk (st := s_holders) lholders cholders kholders
  have Fgreatest_depth := fun_mk (st := s_greatest_depth) lgreatest_depth cgreatest_depth kgreatest_depth
  have Fdeep_history := fun_mk (st := s_deep_history) ldeep_history cdeep_history kdeep_history
  have Ffewest_moves := fun_mk (st := s_fewest_moves) lfewest_moves cfewest_moves kfewest_moves
  have Fl_box := fun_mk (st := s_l_box) ll_box cl_box kl_box
  have Fl_take := fun_mk (st := s_l_take) ll_take cl_take kl_take
  have Fl_pick := fun_mk (st := s_l_pick) ll_pick cl_pick kl_pick
  have Fl_same := fun_mk (st := s_l_same) ll_same cl_same kl_same
  have Fl_shuffled := fun_mk (st := s_l_shuffled) ll_shuffled cl_shuffled kl_shuffled
  have Fl_sizes := fun_mk (st := s_l_sizes) ll_sizes cl_sizes kl_sizes
  have Fl_runs := fun_mk (st := s_l_runs) ll_runs cl_runs kl_runs
  have Fl_top := fun_mk (st := s_l_top) ll_top cl_top kl_top
  have Fl_moved := fun_mk (st := s_l_moved) ll_moved cl_moved kl_moved
  have Fl_nest := fun_mk (st := s_l_nest) ll_nest cl_nest kl_nest
  have Fl_climb := fun_mk (st := s_l_climb) ll_climb cl_climb kl_climb
  have Fl_higher := fun_mk (st := s_l_higher) ll_higher cl_higher kl_higher
  have Fl_wild := fun_mk (st := s_l_wild) ll_wild cl_wild kl_wild
  have Fl_some_nest := fun_mk (st := s_l_some_nest) ll_some_nest cl_some_nest kl_some_nest
  have Fl_right := fun_mk (st := s_l_right) ll_right cl_right kl_right
  have Flaw := fun_mk (st := s_law) llaw claw klaw
  refine ⟨{ f_moves := a_moves, d_moves := _, F_moves := Fmoves, g_moves := PySem.W.mg_of X G amoves, b_moves := Fmoves.binds (ps := ["row", "history"]) (fun _ _ _ _ _ _ us hl => match us, hl with | [_, _], _ => rfl), f_nesting_after := a_nesting_after, d_nesting_after := _, F_nesting_after := Fnesting_after, g_nesting_after := PySem.W.mg_of X G anesting_after, b_nesting_after := Fnesting_after.binds (ps := ["row", "history"]) (fun _ _ _ _ _ _ us hl => match us, hl with | [_, _], _ => rfl), f_check_place := a_check_place, d_check_place := _, F_check_place := Fcheck_place, g_check_place := PySem.W.mg_of X G acheck_place, b_check_place := Fcheck_place.binds (ps := ["row", "place"]) (fun _ _ _ _ _ _ us hl => match us, hl with | [_, _], _ => rfl), f_around := a_around, d_around := _, F_around := Faround, g_around := PySem.W.mg_of X G aaround, b_around := Faround.binds (ps := ["row", "nesting", "place"]) (fun _ _ _ _ _ _ us hl => match us, hl with | [_, _, _], _ => rfl), f_rising := a_rising, d_rising := _, F_rising := Frising, g_rising := PySem.W.mg_of X G arising, b_rising := Frising.binds (ps := ["row", "place", "others"]) (fun _ _ _ _ _ _ us hl => match us, hl with | [_, _, _], _ => rfl), f_holders := a_holders, d_holders := _, F_holders := Fholders, g_holders := PySem.W.mg_of X G aholders, b_holders := Fholders.binds (ps := ["row", "place"]) (fun _ _ _ _ _ _ us hl => match us, hl with | [_, _], _ => rfl), f_greatest_depth := a_greatest_depth, d_greatest_depth := _, F_greatest_depth := Fgreatest_depth, g_greatest_depth := PySem.W.mg_of X G agreatest_depth, b_greatest_depth := Fgreatest_depth.binds (ps := ["row", "place"]) (fun _ _ _ _ _ _ us hl => match us, hl with | [_, _], _ => rfl), f_deep_history := a_deep_history, d_deep_history := _, F_deep_history := Fdeep_history, g_deep_history := PySem.W.mg_of X G adeep_history, b_deep_history := Fdeep_history.binds (ps := ["row", "place"]) (fun _ _ _ _ _ _ us hl => match us, hl with | [_, _], _ => rfl), f_fewest_moves := a_fewest_moves, d_fewest_moves := _, F_fewest_moves := Ffewest_moves, g_fewest_moves := PySem.W.mg_of X G afewest_moves, b_fewest_moves := Ffewest_moves.binds (ps := ["row", "one", "other"]) (fun _ _ _ _ _ _ us hl => match us, hl with | [_, _, _], _ => rfl), f_l_box := a_l_box, d_l_box := _, F_l_box := Fl_box, g_l_box := PySem.W.mg_of X G al_box, b_l_box := Fl_box.binds (ps := ["_law_script", "_law_k"]) (fun _ _ _ _ _ _ us hl => match us, hl with | [_, _], _ => rfl), f_l_take := a_l_take, d_l_take := _, F_l_take := Fl_take, g_l_take := PySem.W.mg_of X G al_take, b_l_take := Fl_take.binds (ps := ["_law_box_here", "_law_span"]) (fun _ _ _ _ _ _ us hl => match us, hl with | [_, _], _ => rfl), f_l_pick := a_l_pick, d_l_pick := _, F_l_pick := Fl_pick, g_l_pick := PySem.W.mg_of X G al_pick, b_l_pick := Fl_pick.binds (ps := ["_law_box_here", "_law_some"]) (fun _ _ _ _ _ _ us hl => match us, hl with | [_, _], _ => rfl), f_l_same := a_l_same, d_l_same := _, F_l_same := Fl_same, g_l_same := PySem.W.mg_of X G al_same, b_l_same := Fl_same.binds (ps := ["_law_found", "_law_due"]) (fun _ _ _ _ _ _ us hl => match us, hl with | [_, _], _ => rfl), f_l_shuffled := a_l_shuffled, d_l_shuffled := _, F_l_shuffled := Fl_shuffled, g_l_shuffled := PySem.W.mg_of X G al_shuffled, b_l_shuffled := Fl_shuffled.binds (ps := ["_law_box_here", "_law_some"]) (fun _ _ _ _ _ _ us hl => match us, hl with | [_, _], _ => rfl), f_l_sizes := a_l_sizes, d_l_sizes := _, F_l_sizes := Fl_sizes, g_l_sizes := PySem.W.mg_of X G al_sizes, b_l_sizes := Fl_sizes.binds (ps := ["_law_box_here", "_law_most"]) (fun _ _ _ _ _ _ us hl => match us, hl with | [_, _], _ => rfl), f_l_runs := a_l_runs, d_l_runs := _, F_l_runs := Fl_runs, g_l_runs := PySem.W.mg_of X G al_runs, b_l_runs := Fl_runs.binds (ps := ["_law_count", "_law_closed"]) (fun _ _ _ _ _ _ us hl => match us, hl with | [_, _], _ => rfl), f_l_top := a_l_top, d_l_top := _, F_l_top := Fl_top, g_l_top := PySem.W.mg_of X G al_top, b_l_top := Fl_top.binds (ps := ["_law_sizes_here", "_law_run"]) (fun _ _ _ _ _ _ us hl => match us, hl with | [_, _], _ => rfl), f_l_moved := a_l_moved, d_l_moved := _, F_l_moved := Fl_moved, g_l_moved := PySem.W.mg_of X G al_moved, b_l_moved := Fl_moved.binds (ps := ["_law_sizes_here", "_law_closed", "_law_crack"]) (fun _ _ _ _ _ _ us hl => match us, hl with | [_, _, _], _ => rfl), f_l_nest := a_l_nest, d_l_nest := _, F_l_nest := Fl_nest, g_l_nest := PySem.W.mg_of X G al_nest, b_l_nest := Fl_nest.binds (ps := ["_law_sizes_here", "_law_tour"]) (fun _ _ _ _ _ _ us hl => match us, hl with | [_, _], _ => rfl), f_l_climb := a_l_climb, d_l_climb := _, F_l_climb := Fl_climb, g_l_climb := PySem.W.mg_of X G al_climb, b_l_climb := Fl_climb.binds (ps := ["_law_nest_here", "_law_spot"]) (fun _ _ _ _ _ _ us hl => match us, hl with | [_, _], _ => rfl), f_l_higher := a_l_higher, d_l_higher := _, F_l_higher := Fl_higher, g_l_higher := PySem.W.mg_of X G al_higher, b_l_higher := Fl_higher.binds (ps := ["_law_sizes_here", "_law_spot"]) (fun _ _ _ _ _ _ us hl => match us, hl with | [_, _], _ => rfl), f_l_wild := a_l_wild, d_l_wild := _, F_l_wild := Fl_wild, g_l_wild := PySem.W.mg_of X G al_wild, b_l_wild := Fl_wild.binds (ps := ["_law_box_here", "_law_sizes_here", "_law_first", "_law_last"]) (fun _ _ _ _ _ _ us hl => match us, hl with | [_, _, _, _], _ => rfl), f_l_some_nest := a_l_some_nest, d_l_some_nest := _, F_l_some_nest := Fl_some_nest, g_l_some_nest := PySem.W.mg_of X G al_some_nest, b_l_some_nest := Fl_some_nest.binds (ps := ["_law_box_here", "_law_sizes_here", "_law_way"]) (fun _ _ _ _ _ _ us hl => match us, hl with | [_, _, _], _ => rfl), f_l_right := a_l_right, d_l_right := _, F_l_right := Fl_right, g_l_right := PySem.W.mg_of X G al_right, b_l_right := Fl_right.binds (ps := ["_law_box_here"]) (fun _ _ _ _ _ _ us hl => match us, hl with | [_], _ => rfl), f_law := a_law, d_law := _, F_law := Flaw, g_law := PySem.W.mg_of X G alaw, b_law := Flaw.binds (ps := ["_law_script"]) (fun _ _ _ _ _ _ us hl => match us, hl with | [_], _ => rfl), m_abs := PySem.W.mg_none_of X G zabs, m_all := PySem.W.mg_none_of X G zall, m_bool := PySem.W.mg_none_of X G zbool, m_int := PySem.W.mg_none_of X G zint, m_isinstance := PySem.W.mg_none_of X G zisinstance, m_len := PySem.W.mg_none_of X G zlen, m_list := PySem.W.mg_none_of X G zlist, m_max := PySem.W.mg_none_of X G zmax, m_min := PySem.W.mg_none_of X G zmin, m_range := PySem.W.mg_none_of X G zrange, m_sorted := PySem.W.mg_none_of X G zsorted, m_str := PySem.W.mg_none_of X G zstr, m_tuple := PySem.W.mg_none_of X G ztuple, m_zip := PySem.W.mg_none_of X G zzip }, fun fa e => ?_, fun s v => .of_eq rfl⟩
  have e2 := e.symm.trans (PySem.W.mg_of X G alaw)
  cases e2
  rfl
end K70
end

section
namespace K70
open PySem PySem.Spec PyProof.Rows L2 TX

def fb_moves : FS := (sSeq (sAsg (eLr1 (eCB (c1 lenD) (aC (eVar 0) aN))) (gN 2))
  (sSeq (sAsg (eLst aN) (gN 3))
  (sSeq (sFor (iS (eVar 1)) (gN 4) (sEnd [4, 5, 6] (sSeq (sPar [5, 6] (aC (eOp oIx (eVar 2) (eVar 4)) (aC (eOp oIx (eVar 2) (eOp oAdd (eVar 4) (eK (.int 1)))) aN)))
  (sSeq (sIf (eB (eOp oGt (eOp oIx (eVar 0) (eVar 5)) (eOp oIx (eVar 0) (eVar 6)))) (sPar [5, 6] (aC (eVar 6) (aC (eVar 5) aN))) sNx)
  (sSeq (sDrop (eM 3 mApp (aC (eTup (aC (eVar 5) (aC (eVar 6) aN))) aN)))
  (sAsg (eLc [7] (iS (eVar 2)) (gN 7) tY (eIf (eB (eOp oEq (eVar 7) (eVar 5))) (eVar 6) (eVar 7))) (gN 2)))))))
  (sRet (eMv 3)))))
def C_moves : Con := mkC 2 6 [] fb_moves
def fb_nesting_after : FS := (sSeq (sAsg (eOp oMul (eLst (aC (eK .non) aN)) (eCB (c1 lenD) (aC (eVar 0) aN))) (gN 2))
  (sSeq (sFor (iS (eCall C_moves (rV (eVar 0) (rV (eVar 1) rN)))) (gT 2 (gsC (gN 3) (gsC (gN 4) gsN))) (sEnd [3, 4] (sAsg (eVar 4) (gSt 2 (eVar 3)))))
  (sRet (eCB (c1 tupleD) (aC (eVar 2) aN)))))
def C_nesting_after : Con := mkC 2 3 [] fb_nesting_after
def fb_check_place : FS := (sIf (tN (eB (eCh oLe oLt (eK (.int 0)) (eVar 1) (eCB (c1 lenD) (aC (eVar 0) aN))))) sBad sNx)
def C_check_place : Con := mkC 2 0 [] fb_check_place
def fb_around : FS := (sSeq (sDrop (eCall C_check_place (rV (eVar 0) (rV (eVar 2) rN))))
  (sSeq (sAsg (eLst aN) (gN 3))
  (sSeq (sAsg (eOp oIx (eVar 1) (eVar 2)) (gN 4))
  (sSeq (sWh fuel (eB (eOp oNtN (eVar 4) (eK .non))) (sSeq (sDrop (eM 3 mApp (aC (eVar 4) aN)))
  (sAsg (eOp oIx (eVar 1) (eVar 4)) (gN 4))))
  (sRet (eMv 3))))))
def C_around : Con := mkC 3 2 [] fb_around
def fb_rising : FS := (sSeq (sAsg (eLst aN) (gN 3))
  (sSeq (sAsg (eOp oIx (eVar 0) (eVar 1)) (gN 4))
  (sSeq (sFor (iS (eVar 2)) (gN 5) (sEnd [5] (sIf (eB (eOp oGt (eOp oIx (eVar 0) (eVar 5)) (eVar 4))) (sSeq (sAsg (eOp oIx (eVar 0) (eVar 5)) (gN 4))
  (sDrop (eM 3 mApp (aC (eVar 5) aN)))) sNx)))
  (sRet (eMv 3)))))
def C_rising : Con := mkC 3 3 [] fb_rising
def fb_holders : FS := (sSeq (sDrop (eCall C_check_place (rV (eVar 0) (rV (eVar 1) rN))))
  (sSeq (sAsg (eCall C_rising (rV (eVar 0) (rV (eVar 1) (rV (eLdn (aC (eOp oSub (eVar 1) (eK (.int 1))) (aC (eUn uNeg (eK (.int 1))) (aC (eUn uNeg (eK (.int 1))) aN)))) rN)))) (gN 2))
  (sSeq (sAsg (eCall C_rising (rV (eVar 0) (rV (eVar 1) (rV (eLr2 (eOp oAdd (eVar 1) (eK (.int 1))) (eCB (c1 lenD) (aC (eVar 0) aN))) rN)))) (gN 3))
  (sRet (eCB (c1 sortedD) (aC (eOp oAdd (eVar 2) (eVar 3)) aN))))))
def C_holders : Con := mkC 2 2 [] fb_holders
def fb_greatest_depth : FS := (sRet (eCB (c1 lenD) (aC (eCall C_holders (rV (eVar 0) (rV (eVar 1) rN))) aN)))
def C_greatest_depth : Con := mkC 2 0 [] fb_greatest_depth
def fb_deep_history : FS := (sSeq (sDrop (eCall C_check_place (rV (eVar 0) (rV (eVar 1) rN))))
  (sSeq (sAsg (eVar 1) (gN 2))
  (sSeq (sAsg (eVar 1) (gN 3))
  (sSeq (sAsg (eLst aN) (gN 4))
  (sSeq (sWh fuel (eB (eOp oLt (ePk 4 (eCB (c1 lenD) (aC (eVar 4) aN))) (eOp oSub (eCB (c1 lenD) (aC (eVar 0) aN)) (eK (.int 1))))) (sIf (tA (eB (eOp oGt (eVar 2) (eK (.int 0)))) (tR (eB (eOp oEq (eVar 3) (eOp oSub (eCB (c1 lenD) (aC (eVar 0) aN)) (eK (.int 1))))) (eB (eOp oLt (eOp oIx (eVar 0) (eOp oSub (eVar 2) (eK (.int 1)))) (eOp oIx (eVar 0) (eOp oAdd (eVar 3) (eK (.int 1)))))))) (sSeq (sAug 2 (fun i j => i - j) (eK (.int 1)))
  (sDrop (eM 4 mApp (aC (eVar 2) aN)))) (sSeq (sDrop (eM 4 mApp (aC (eVar 3) aN)))
  (sAug 3 (fun i j => i + j) (eK (.int 1))))))
  (sRet (eMv 4)))))))
def C_deep_history : Con := mkC 2 3 [] fb_deep_history
def fb_fewest_moves : FS := (sSeq (sDrop (eCall C_check_place (rV (eVar 0) (rV (eVar 1) rN))))
  (sSeq (sDrop (eCall C_check_place (rV (eVar 0) (rV (eVar 2) rN))))
  (sSeq (sIf (eB (eOp oNi (eVar 2) (eCall C_holders (rV (eVar 0) (rV (eVar 1) rN))))) (sRet (eK .non)) sNx)
  (sRet (eCB (c1 absD) (aC (eOp oSub (eVar 1) (eVar 2)) aN))))))
def C_fewest_moves : Con := mkC 3 0 [] fb_fewest_moves
def fb_l_box : FS := (sSeq (sAsg (eK (.int 0)) (gN 2))
  (sSeq (sIf (eB (eOp oLt (eVar 1) (eCB (c1 lenD) (aC (eVar 0) aN)))) (sAsg (eOp oIx (eVar 0) (eVar 1)) (gN 2)) sNx)
  (sRet (eLst (aC (eOp oMul (eCB (c1 absD) (aC (eVar 2) aN)) (eCB (c1 intD) (aC (eOp oGe (eCB (c1 absD) (aC (eVar 2) aN)) (eOp oPow (eK (.int 10)) (eK (.int 18)))) aN))) (aC (eOp oMod (eOp oMul (eOp oAdd (eOp oAdd (eOp oMod (eVar 2) (eK (.int 2147483629))) (eOp oMul (eK (.int 17417)) (eVar 1))) (eK (.int 37))) (eK (.int 40277))) (eK (.int 2147483549))) (aC (eK (.int 0)) aN)))))))
def C_l_box : Con := mkC 2 1 [] fb_l_box
def fb_l_take (R : Con) : FS := (sSeq (sIf (eB (eOp oGt (ePk 0 (eOp oIx (eVar 0) (eK (.int 0)))) (eK (.int 0)))) (sSeq (sAsg (eOp oMod (ePk 0 (eOp oIx (eVar 0) (eK (.int 0)))) (eVar 1)) (gN 2))
  (sSeq (sAsg (eOp oDiv (ePk 0 (eOp oIx (eVar 0) (eK (.int 0)))) (eVar 1)) (gSt 0 (eK (.int 0))))
  (sRet (eMv 2)))) sNx)
  (sSeq (sIf (eB (eOp oGt (eVar 1) (eOp oPow (eK (.int 10)) (eK (.int 7))))) (sRet (eOp oMod (eOp oAdd (eCall R (rL 0 (rV (eOp oPow (eK (.int 10)) (eK (.int 7))) rN))) (eOp oMul (eOp oPow (eK (.int 10)) (eK (.int 7))) (eCall R (rL 0 (rV (eOp oAdd (eOp oDiv (eVar 1) (eOp oPow (eK (.int 10)) (eK (.int 7)))) (eK (.int 1))) rN))))) (eVar 1))) sNx)
  (sSeq (sAsg (eOp oAdd (ePk 0 (eOp oIx (eVar 0) (eK (.int 2)))) (eK (.int 1))) (gSt 0 (eK (.int 2))))
  (sSeq (sAsg (eOp oMod (eOp oPow (eOp oAdd (ePk 0 (eOp oIx (eVar 0) (eK (.int 1)))) (eOp oMul (eK (.int 52183)) (ePk 0 (eOp oIx (eVar 0) (eK (.int 2)))))) (eK (.int 3))) (eK (.int 2147483587))) (gN 3))
  (sRet (eOp oMod (eOp oDiv (eOp oMod (eOp oAdd (eOp oMul (eVar 3) (eOp oAdd (eOp oMod (eVar 3) (eK (.int 30011))) (eK (.int 13)))) (eOp oMul (ePk 0 (eOp oIx (eVar 0) (eK (.int 2)))) (eK (.int 6389)))) (eK (.int 2147483647))) (eK (.int 32))) (eVar 1)))))))
def C_l_take : Nat → Con
  | 0 => noC 2 [0]
  | k + 1 => mkC 2 2 [0] (fb_l_take (C_l_take k))
def fb_l_pick : FS := (sRet (eOp oIx (eVar 1) (eCall (C_l_take 2) (rL 0 (rV (eCB (c1 lenD) (aC (eVar 1) aN)) rN)))))
def C_l_pick : Con := mkC 2 0 [0] fb_l_pick
def fb_l_same (R : Con) : FS := (sSeq (sIf (eB (eIsi2 "list" "tuple" (eVar 1))) (sSeq (sIf (tR (eB (eOp oNe (eIsi "list" (eVar 0)) (eIsi "list" (eVar 1)))) (eB (eOp oNe (eIsi "tuple" (eVar 0)) (eIsi "tuple" (eVar 1))))) (sRet (eK (.bl false))) sNx)
  (sRet (eAnd (eOp oEq (eCB (c1 lenD) (aC (eVar 0) aN)) (eCB (c1 lenD) (aC (eVar 1) aN))) (eCB (c1 allD) (aC (eLc [2, 3] (iZ (aC (eVar 0) (aC (eVar 1) aN))) (gT 2 (gsC (gN 2) (gsC (gN 3) gsN))) tY (eCall R (rV (eVar 2) (rV (eVar 3) rN)))) aN))))) sNx)
  (sSeq (sIf (tR (eB (eOp oIsN (eVar 1) (eK .non))) (eB (eIsi "str" (eVar 1)))) (sRet (eAnd (eOp oEq (eVar 0) (eVar 1)) (eOp oEq (eIsi "str" (eVar 0)) (eIsi "str" (eVar 1))))) sNx)
  (sRet (eAnd (eIsi "int" (eVar 0)) (eAnd (eOp oEq (eIsi "bool" (eVar 0)) (eIsi "bool" (eVar 1))) (eOp oEq (eVar 0) (eVar 1)))))))
def C_l_same : Nat → Con
  | 0 => noC 2 []
  | k + 1 => mkC 2 2 [] (fb_l_same (C_l_same k))
def fb_l_shuffled : FS := (sSeq (sPar [2, 3] (aC (eCB (c1 listD) (aC (eVar 1) aN)) (aC (eLst aN) aN)))
  (sSeq (sWh fuel (eB (ePk 2 (eOp oNe (eVar 2) (eLst aN)))) (sDrop (eM 3 mApp (aC (eM 2 mPopAt (aC (eCall (C_l_take 2) (rL 0 (rV (ePk 2 (eCB (c1 lenD) (aC (eVar 2) aN))) rN))) aN)) aN))))
  (sRet (eMv 3))))
def C_l_shuffled : Con := mkC 2 2 [0] fb_l_shuffled
def fb_l_sizes : FS := (sSeq (sPar [2, 3, 4, 5] (aC (eOp oAdd (eK (.int 1)) (eCall (C_l_take 2) (rL 0 (rV (eVar 1) rN)))) (aC (eCall C_l_pick (rL 0 (rV (eLst (aC (eK (.int 1)) (aC (eK (.int 1)) (aC (eK (.int 3)) (aC (eOp oMul (eK (.int 8)) (eOp oPow (eK (.int 10)) (eK (.int 7)))) aN))))) rN))) (aC (eK (.int 0)) (aC (eLst aN) aN)))))
  (sSeq (sFor (iR1 (aC (eVar 2) aN)) (gN 6) (sEnd [6] (sSeq (sAsg (eOp oAdd (eOp oAdd (eVar 4) (eK (.int 1))) (eCall (C_l_take 2) (rL 0 (rV (eVar 3) rN)))) (gN 4))
  (sDrop (eM 5 mApp (aC (eVar 4) aN))))))
  (sSeq (sAsg (eCall (C_l_take 2) (rL 0 (rV (eK (.int 6)) rN))) (gN 7))
  (sSeq (sIf (eB (eOp oEq (eVar 7) (eK (.int 0)))) (sRet (eCB (c1 tupleD) (aC (eVar 5) aN))) sNx)
  (sSeq (sIf (eB (eOp oEq (eVar 7) (eK (.int 1)))) (sRet (eCB (c1 tupleD) (aC (eEi (eStep (eVar 5) pN pN (pS (eUn uNeg (eK (.int 1))))) (eRevT (eVar 5) (eUn uNeg (eK (.int 1))))) aN))) sNx)
  (sSeq (sIf (eB (eOp oEq (eVar 7) (eK (.int 2)))) (sRet (eCB (c1 tupleD) (aC (eOp oAdd (eStep (eVar 5) pN pN (pS (eK (.int 2)))) (eEi (eStep (eStep (eVar 5) (pS (eK (.int 1))) pN (pS (eK (.int 2)))) pN pN (pS (eUn uNeg (eK (.int 1))))) (eRevT (eStep (eVar 5) (pS (eK (.int 1))) pN (pS (eK (.int 2)))) (eUn uNeg (eK (.int 1)))))) aN))) sNx)
  (sRet (eCB (c1 tupleD) (aC (eCall C_l_shuffled (rL 0 (rV (eVar 5) rN))) aN)))))))))
def C_l_sizes : Con := mkC 2 6 [0] fb_l_sizes
def fb_l_runs : FS := (sSeq (sAsg (eLst (aC (eLst (aC (eK (.int 0)) aN)) aN)) (gN 2))
  (sSeq (sFor (iR2 (aC (eK (.int 1)) (aC (eVar 0) aN))) (gN 3) (sEnd [3] (sIf (eB (eOp oIn (eOp oSub (eVar 3) (eK (.int 1))) (eVar 1))) (sDrop (sAppAt 2 (-1) 3)) (sDrop (eM 2 mApp (aC (eLst (aC (eVar 3) aN)) aN))))))
  (sRet (eMv 2))))
def C_l_runs : Con := mkC 2 2 [] fb_l_runs
def fb_l_top : FS := (sRet (eOp oIx (eCB (c1 maxD) (aC (eLc [2] (iS (eVar 1)) (gN 2) tY (eTup (aC (eOp oIx (eVar 0) (eVar 2)) (aC (eVar 2) aN)))) aN)) (eK (.int 1))))
def C_l_top : Con := mkC 2 1 [] fb_l_top
def fb_l_moved : FS := (sSeq (sAsg (eLc [4] (iS (eCall C_l_runs (rV (eCB (c1 lenD) (aC (eVar 0) aN)) (rV (eVar 1) rN)))) (gN 4) (tR (eB (eOp oIn (eVar 2) (eVar 4))) (eB (eOp oIn (eOp oAdd (eVar 2) (eK (.int 1))) (eVar 4)))) (eCall C_l_top (rV (eVar 0) (rV (eVar 4) rN)))) (gN 3))
  (sRet (eIf (eB (eOp oLt (eOp oIx (eVar 0) (eOp oIx (eVar 3) (eK (.int 0)))) (eOp oIx (eVar 0) (eOp oIx (eVar 3) (eK (.int 1)))))) (eTup (aC (eOp oIx (eVar 3) (eK (.int 0))) (aC (eOp oIx (eVar 3) (eK (.int 1))) aN))) (eTup (aC (eOp oIx (eVar 3) (eK (.int 1))) (aC (eOp oIx (eVar 3) (eK (.int 0))) aN))))))
def C_l_moved : Con := mkC 3 2 [] fb_l_moved
def fb_l_nest : FS := (sSeq (sAsg (eOp oMul (eLst (aC (eK .non) aN)) (eCB (c1 lenD) (aC (eVar 0) aN))) (gN 2))
  (sSeq (sFor (iR1 (aC (eCB (c1 lenD) (aC (eVar 1) aN)) aN)) (gN 3) (sEnd [3, 4, 5] (sSeq (sAsg (eCall C_l_moved (rV (eVar 0) (rV (eSl (eVar 1) pN (pS (eVar 3))) (rV (eOp oIx (eVar 1) (eVar 3)) rN)))) (gT 2 (gsC (gN 4) (gsC (gN 5) gsN))))
  (sAsg (eVar 5) (gSt 2 (eVar 4))))))
  (sRet (eCB (c1 tupleD) (aC (eVar 2) aN)))))
def C_l_nest : Con := mkC 2 4 [] fb_l_nest
def fb_l_climb : FS := (sSeq (sAsg (eLst aN) (gN 2))
  (sSeq (sWh fuel (tA (eB (eOp oNtN (eOp oIx (eVar 0) (eVar 1)) (eK .non))) (eB (eOp oLe (ePk 2 (eCB (c1 lenD) (aC (eVar 2) aN))) (eCB (c1 lenD) (aC (eVar 0) aN))))) (sSeq (sAsg (eOp oIx (eVar 0) (eVar 1)) (gN 1))
  (sDrop (eM 2 mApp (aC (eVar 1) aN)))))
  (sRet (eMv 2))))
def C_l_climb : Con := mkC 2 1 [] fb_l_climb
def fb_l_higher : FS := (sSeq (sAsg (eLst aN) (gN 2))
  (sSeq (sFor (iR1 (aC (eCB (c1 lenD) (aC (eVar 0) aN)) aN)) (gN 3) (sEnd [3, 4] (sSeq (sAsg (eLr2 (eCB cMin2 (aC (eVar 1) (aC (eVar 3) aN))) (eOp oAdd (eCB cMax2 (aC (eVar 1) (aC (eVar 3) aN))) (eK (.int 1)))) (gN 4))
  (sIf (tA (eB (eOp oNe (eVar 3) (eVar 1))) (eB (eOp oEq (eOp oIx (eVar 0) (eVar 3)) (eCB (c1 maxD) (aC (eLc [5] (iS (eVar 4)) (gN 5) tY (eOp oIx (eVar 0) (eVar 5))) aN))))) (sDrop (eM 2 mApp (aC (eVar 3) aN))) sNx))))
  (sRet (eMv 2))))
def C_l_higher : Con := mkC 2 4 [] fb_l_higher
def fb_l_wild (R : Con) : FS := (sSeq (sPar [4, 5] (aC (eCall C_l_top (rV (eVar 1) (rV (eLr2 (eVar 2) (eOp oAdd (eVar 3) (eK (.int 1)))) rN))) (aC (eLst aN) aN)))
  (sSeq (sFor (iS (eTup (aC (eTup (aC (eVar 2) (aC (eOp oSub (eVar 4) (eK (.int 1))) aN))) (aC (eTup (aC (eOp oAdd (eVar 4) (eK (.int 1))) (aC (eVar 3) aN))) aN)))) (gT 2 (gsC (gN 6) (gsC (gN 7) gsN))) (sEnd [6, 7, 8, 9] (sWh fuel (eB (eOp oLe (eVar 6) (eVar 7))) (sEnd [8, 9] (sSeq (sAsg (eOp oAdd (eVar 6) (eCall (C_l_take 2) (rL 0 (rV (eOp oAdd (eOp oSub (eVar 7) (eVar 6)) (eK (.int 1))) rN)))) (gN 8))
  (sSeq (sAsg (eCall R (rL 0 (rV (eVar 1) (rV (eVar 6) (rV (eVar 8) rN))))) (gN 9))
  (sSeq (sAsg (eOp oAdd (eOp oAdd (eVar 5) (eVar 9)) (eLst (aC (eTup (aC (eCall C_l_top (rV (eVar 1) (rV (eLr2 (eVar 6) (eOp oAdd (eVar 8) (eK (.int 1)))) rN))) (aC (eVar 4) aN))) aN))) (gN 5))
  (sAsg (eOp oAdd (eVar 8) (eK (.int 1))) (gN 6)))))))))
  (sRet (eMv 5))))
def C_l_wild : Nat → Con
  | 0 => noC 4 [0]
  | k + 1 => mkC 4 6 [0] (fb_l_wild (C_l_wild k))
def fb_l_some_nest : FS := (sSeq (sPar [3, 4] (aC (eOp oMul (eLst (aC (eK .non) aN)) (eCB (c1 lenD) (aC (eVar 1) aN))) (aC (eK (.int 0)) aN)))
  (sSeq (sWh fuel (eB (eOp oLt (eVar 4) (eCB (c1 lenD) (aC (eVar 1) aN)))) (sEnd [5, 6, 7] (sSeq (sAsg (eIf (eB (eOp oEq (eVar 2) (eK (.int 0)))) (eOp oSub (eCB (c1 lenD) (aC (eVar 1) aN)) (eK (.int 1))) (eOp oAdd (eVar 4) (eCall (C_l_take 2) (rL 0 (rV (eOp oSub (eCB (c1 lenD) (aC (eVar 1) aN)) (eVar 4)) rN))))) (gN 5))
  (sSeq (sFor (iS (eCall (C_l_wild 13) (rL 0 (rV (eVar 1) (rV (eVar 4) (rV (eVar 5) rN)))))) (gT 2 (gsC (gN 6) (gsC (gN 7) gsN))) (sEnd [6, 7] (sAsg (eVar 7) (gSt 3 (eVar 6)))))
  (sAsg (eOp oAdd (eVar 5) (eK (.int 1))) (gN 4))))))
  (sRet (eCB (c1 tupleD) (aC (eVar 3) aN)))))
def C_l_some_nest : Con := mkC 3 5 [0] fb_l_some_nest
def fb_l_right : FS := (sSeq (sAsg (eCall C_l_sizes (rL 0 (rV (eK (.int 12)) rN))) (gN 1))
  (sSeq (sPar [2, 3] (aC (eCB (c1 lenD) (aC (eVar 1) aN)) (aC (eCall C_l_some_nest (rL 0 (rV (eVar 1) (rV (eK (.int 0)) rN)))) aN)))
  (sSeq (sFor (iR1 (aC (eVar 2) aN)) (gN 4) (sEnd [4, 5, 6, 7, 8] (sSeq (sAsg (eCall C_l_higher (rV (eVar 1) (rV (eVar 4) rN))) (gN 5))
  (sSeq (sIf (tN (eB (eCall (C_l_same 6) (rV (eLst (aC (eCall C_greatest_depth (rV (eVar 1) (rV (eVar 4) rN))) (aC (eCall C_holders (rV (eVar 1) (rV (eVar 4) rN))) aN))) (rV (eLst (aC (eCB (c1 lenD) (aC (eVar 5) aN)) (aC (eVar 5) aN))) rN))))) (sRet (eK (.bl false))) sNx)
  (sSeq (sAsg (eCall C_deep_history (rV (eVar 1) (rV (eVar 4) rN))) (gN 6))
  (sSeq (sIf (eB (eOp oNe (eCB (c1 sortedD) (aC (eVar 6) aN)) (eLr1 (eOp oSub (eVar 2) (eK (.int 1)))))) (sRet (eK (.bl false))) sNx)
  (sSeq (sAsg (eCall C_l_climb (rV (eCall C_l_nest (rV (eVar 1) (rV (eVar 6) rN))) (rV (eVar 4) rN))) (gN 7))
  (sSeq (sAsg (eLc [12] (iS (eVar 7)) (gN 12) tY (eOp oIx (eVar 1) (eVar 12))) (gN 8))
  (sSeq (sIf (tR (eB (eOp oNe (eCB (c1 sortedD) (aC (eVar 7) aN)) (eVar 5))) (eB (eOp oNe (eVar 8) (eCB (c1 sortedD) (aC (eVar 8) aN))))) (sRet (eK (.bl false))) sNx)
  (sIf (eB (eOp oGt (eCB (c1 lenD) (aC (eCall C_around (rV (eVar 1) (rV (eVar 3) (rV (eVar 4) rN)))) aN)) (eCB (c1 lenD) (aC (eVar 5) aN)))) (sRet (eK (.bl false))) sNx))))))))))
  (sSeq (sPar [9, 10] (aC (eCall (C_l_take 2) (rL 0 (rV (eVar 2) rN))) (aC (eCall (C_l_take 2) (rL 0 (rV (eVar 2) rN))) aN)))
  (sSeq (sIf (eB (eOp oNi (eVar 10) (eCall C_l_higher (rV (eVar 1) (rV (eVar 9) rN))))) (sRet (eOp oIsN (eCall C_fewest_moves (rV (eVar 1) (rV (eVar 9) (rV (eVar 10) rN)))) (eK .non))) sNx)
  (sSeq (sAsg (eCB cMin2 (aC (eVar 9) (aC (eVar 10) aN))) (gN 11))
  (sSeq (sAsg (eCall C_l_shuffled (rL 0 (rV (eLr2 (eVar 11) (eCB cMax2 (aC (eVar 9) (aC (eVar 10) aN)))) rN))) (gN 6))
  (sSeq (sIf (eB (eOp oNe (eCall C_fewest_moves (rV (eVar 1) (rV (eVar 9) (rV (eVar 10) rN)))) (eCB (c1 lenD) (aC (eVar 6) aN)))) (sRet (eK (.bl false))) sNx)
  (sRet (eAnd (eOp oIn (eVar 10) (eCall C_around (rV (eVar 1) (rV (eCall C_nesting_after (rV (eVar 1) (rV (eVar 6) rN))) (rV (eVar 9) rN))))) (eOp oNe (eVar 6) (eLst aN))))))))))))
def C_l_right : Con := mkC 1 12 [0] fb_l_right
def fb_law : FS := (sSeq (sFor (iR1 (aC (eOp oAdd (eK (.int 1)) (eCB cMin2 (aC (eK (.int 2)) (aC (eCB (c1 lenD) (aC (eVar 0) aN)) aN)))) aN)) (gN 1) (sEnd [1, 2] (sSeq (sAsg (eCall C_l_box (rV (eVar 0) (rV (eVar 1) rN))) (gN 2))
  (sIf (tN (eB (eCB (c1 allD) (aC (eLc [3] (iR1 (aC (eK (.int 2)) aN)) (gN 3) tY (eCall C_l_right (rL 2 rN))) aN)))) (sRet (eK (.bl false))) sNx))))
  (sRet (eK (.bl true))))
def C_law : Con := mkC 1 3 [] fb_law
end K70
end

section
namespace K70
open PySem PySem.Spec PyProof.Rows L2 TX
section
variable {P : Program} {w : World} {K : PySem.W.Frag} {mg : Str → Option Value} {base : Heap} (T : Txt K mg)

theorem ok_moves : FnG P w K mg base CX0 1 T.f_moves T.d_moves ["row", "history"] (spT K C_moves) := by
  exact ok_fn T.F_moves sc_moves rfl rfl (by decide) fun cdv A out s H E hgd hr => ⟨_, (pss_cons (ps_set (i := 2) sc_moves.nd rfl (.inl rfl) (pe_listRg rfl (by rfl) T.m_list (prg_1 (by rfl) T.m_range (pe_callB (lenK K rfl) (by rfl) T.m_len (by decide +kernel) (pa_cons (pv 0) pa_nil)))))
  (pss_cons (ps_set (i := 3) sc_moves.nd rfl (.inl rfl) (pe_lst pa_nil))
  (pss_cons (ps_for PassesOwn.never rfl (pi_seqK K rfl (pv 1)) (pg_name (i := 4) sc_moves.nd rfl (.inl rfl)) (pss_cons (ps_asg (pe_tup (pa_cons (pe_ix (ixK K rfl) (pv 2) (pv 4) (fun _ _ => rfl)) (pa_cons (pe_ix (ixK K rfl) (pv 2) (pe_op (addK K rfl) (pv 4) pe_int) (fun _ _ => rfl)) pa_nil))) (pg_tupK K rfl (n := 2) rfl (pgs_cons (pg_name (i := 5) sc_moves.nd rfl (.inr rfl)) (pgs_cons (pg_name (i := 6) sc_moves.nd rfl (.inr rfl)) pgs_nil))))
  (pss_cons (ps_if (pt_cmpR op_gt (pe_ix (ixK K rfl) (pv 0) (pv 5) (fun _ _ => rfl)) (pe_ix (ixK K rfl) (pv 0) (pv 6) (fun _ _ => rfl)) (nomark _)) (pss_one (ps_asg (pe_tup (pa_cons (pv 6) (pa_cons (pv 5) pa_nil))) (pg_tupK K rfl (n := 2) rfl (pgs_cons (pg_name (i := 5) sc_moves.nd rfl (.inr rfl)) (pgs_cons (pg_name (i := 6) sc_moves.nd rfl (.inr rfl)) pgs_nil))))) pss_nil)
  (pss_cons (ps_expr (pe_bm PySem.F.plainAttrs_list PySem.F.slot_list_append PySem.F.type_list_append mt_append (pv 3) (pa_cons (pe_tupF (pa_cons (pv 5) (pa_cons (pv 6) pa_nil))) pa_nil)))
  (pss_one (ps_setLc (i := 2) (own := [("above", 7)]) (by rfl) sc_moves.nd rfl rfl (sw_true rfl rfl rfl (by decide +kernel)) (pi_seqK K rfl (pv 2)) (blkOk_by (own := [("above", 7)]) (N := ["row", "history", "outer", "found", "gap", "one", "other", "above"]) (sc := defScope s_moves) (by decide +kernel)) (fun _ _ _ _ _ => (pg_name (i := 7) sc_moves.nd rfl (by first | exact .inl rfl | exact .inr rfl))) (fun _ _ _ _ _ => pts_nil) (fun _ _ _ _ _ => (pe_ifExp (pt_cmpR (eqK K rfl hr.units) (pv 7) (pv 5) (nomark _)) (pv 6) (pv 7)))))))))
  (pss_one (ps_ret (pv 3)))))), (ss_seq (ss_asg (se_lr1 (se_cb sc_len (sb_cons se_var sb_nil))) (sg_name (by decide)))
  (ss_seq (ss_asg (se_lst sb_nil) (sg_name (by decide)))
  (ss_seq (ss_for (si_seq se_var) (sg_name (by decide)) (ss_end (ss_seq (ss_parT (is := [5, 6]) (by decide) rfl (by decide) (sb_cons (se_op so_ix se_var se_var) (sb_cons (se_op so_ix se_var (se_op so_add se_var se_int)) sb_nil)))
  (ss_seq (ss_if (st_test (se_op so_b (se_op so_ix se_var se_var) (se_op so_ix se_var se_var))) (ss_parT (is := [5, 6]) (by decide) rfl (by decide) (sb_cons se_var (sb_cons se_var sb_nil))) ss_next)
  (ss_seq (ss_drop (se_app (sb_cons (se_tup (sb_cons se_var (sb_cons se_var sb_nil))) sb_nil)))
  (ss_asg (se_lc (by decide) (si_seq se_var) (sgw_name (by decide) (by decide)) st_yes (se_if (st_test (se_op so_eq se_var se_var)) se_var se_var)) (sg_name (by decide))))))))
  (ss_ret se_mv))))⟩
theorem ok_nesting_after : FnG P w K mg base CX0 2 T.f_nesting_after T.d_nesting_after ["row", "history"] (spT K C_nesting_after) := by
  have G_moves := ok_moves (P := P) (w := w) (base := base) T
  exact ok_fn T.F_nesting_after sc_nesting_after rfl rfl (by decide) fun cdv A out s H E hgd hr => ⟨_, (pss_cons (ps_set (i := 2) sc_nesting_after.nd rfl (.inl rfl) (pe_op op_mulX (pe_lst (pa_cons pe_non pa_nil)) (pe_callB (lenK K rfl) (by rfl) T.m_len (by decide +kernel) (pa_cons (pv 0) pa_nil))))
  (pss_cons (ps_for PassesOwn.never rfl (pi_seqK K rfl (pe_callG G_moves hgd (room hr) (by rfl) T.g_moves T.F_moves.kp T.b_moves .nil pass0 (pa_cons (pv 0) (pa_cons (pv 1) pa_nil)))) (pg_tupK K rfl (n := 2) rfl (pgs_cons (pg_name (i := 3) sc_nesting_after.nd rfl (.inl rfl)) (pgs_cons (pg_name (i := 4) sc_nesting_after.nd rfl (.inl rfl)) pgs_nil))) (pss_one (ps_asg (pv 4) (pg_sub (pv 2) (pv 3) set_list))))
  (pss_one (ps_ret (pe_callTy (tupleK K rfl) (by rfl) T.m_tuple (by decide +kernel) (pa_cons (pv 2) pa_nil)))))), (ss_seq (ss_asg (se_op so_mul (se_lst (sb_cons se_non sb_nil)) (se_cb sc_len (sb_cons se_var sb_nil))) (sg_name (by decide)))
  (ss_seq (ss_for (si_seq (se_call (sr_val se_var (sr_val se_var sr_nil)))) (sg_tup (sgs_cons (sg_name (by decide)) (sgs_cons (sg_name (by decide)) sgs_nil))) (ss_end (ss_asg se_var (sg_set se_var))))
  (ss_ret (se_cb sc_tuple (sb_cons se_var sb_nil)))))⟩
theorem ok_check_place : FnG P w K mg base CX0 1 T.f_check_place T.d_check_place ["row", "place"] (spT K C_check_place) := by
  exact ok_fn T.F_check_place sc_check_place rfl rfl (by decide) fun cdv A out s H E hgd hr => ⟨_, (pss_one (ps_if (pt_not (pt_chain op_le op_lt pe_int (pv 1) (pe_callB (lenK K rfl) (by rfl) T.m_len (by decide +kernel) (pa_cons (pv 0) pa_nil)))) (pss_one ps_dead) pss_nil)), (ss_if (st_not (st_test (se_ch se_int se_var (se_cb sc_len (sb_cons se_var sb_nil))))) ss_dead ss_next)⟩
theorem ok_around : FnG P w K mg base CX0 2 T.f_around T.d_around ["row", "nesting", "place"] (spT K C_around) := by
  have G_check_place := ok_check_place (P := P) (w := w) (base := base) T
  exact ok_fn T.F_around sc_around rfl rfl (by decide) fun cdv A out s H E hgd hr => ⟨_, (pss_cons (ps_expr (pe_callG G_check_place hgd (room hr) (by rfl) T.g_check_place T.F_check_place.kp T.b_check_place .nil pass0 (pa_cons (pv 0) (pa_cons (pv 2) pa_nil))))
  (pss_cons (ps_set (i := 3) sc_around.nd rfl (.inl rfl) (pe_lst pa_nil))
  (pss_cons (ps_set (i := 4) sc_around.nd rfl (.inl rfl) (pe_ix (ixK K rfl) (pv 1) (pv 2) (fun _ _ => rfl)))
  (pss_cons (ps_while PassesOwn.never (pt_cmpR op_notNX (pv 4) pe_non (nomark _)) (pss_cons (ps_expr (pe_bm PySem.F.plainAttrs_list PySem.F.slot_list_append PySem.F.type_list_append mt_append (pv 3) (pa_cons (pv 4) pa_nil)))
  (pss_one (ps_set (i := 4) sc_around.nd rfl (.inl rfl) (pe_ix (ixK K rfl) (pv 1) (pv 4) (fun _ _ => rfl))))))
  (pss_one (ps_ret (pv 3))))))), (ss_seq (ss_drop (se_call (sr_val se_var (sr_val se_var sr_nil))))
  (ss_seq (ss_asg (se_lst sb_nil) (sg_name (by decide)))
  (ss_seq (ss_asg (se_op so_ix se_var se_var) (sg_name (by decide)))
  (ss_seq (ss_while (st_test (se_op so_ntN se_var se_non)) (ss_seq (ss_drop (se_app (sb_cons se_var sb_nil)))
  (ss_asg (se_op so_ix se_var se_var) (sg_name (by decide)))))
  (ss_ret se_mv)))))⟩
theorem ok_rising : FnG P w K mg base CX0 1 T.f_rising T.d_rising ["row", "place", "others"] (spT K C_rising) := by
  exact ok_fn T.F_rising sc_rising rfl rfl (by decide) fun cdv A out s H E hgd hr => ⟨_, (pss_cons (ps_set (i := 3) sc_rising.nd rfl (.inl rfl) (pe_lst pa_nil))
  (pss_cons (ps_set (i := 4) sc_rising.nd rfl (.inl rfl) (pe_ix (ixK K rfl) (pv 0) (pv 1) (fun _ _ => rfl)))
  (pss_cons (ps_for PassesOwn.never rfl (pi_seqK K rfl (pv 2)) (pg_name (i := 5) sc_rising.nd rfl (.inl rfl)) (pss_one (ps_if (pt_cmpR op_gt (pe_ix (ixK K rfl) (pv 0) (pv 5) (fun _ _ => rfl)) (pv 4) (nomark _)) (pss_cons (ps_set (i := 4) sc_rising.nd rfl (.inl rfl) (pe_ix (ixK K rfl) (pv 0) (pv 5) (fun _ _ => rfl)))
  (pss_one (ps_expr (pe_bm PySem.F.plainAttrs_list PySem.F.slot_list_append PySem.F.type_list_append mt_append (pv 3) (pa_cons (pv 5) pa_nil))))) pss_nil)))
  (pss_one (ps_ret (pv 3)))))), (ss_seq (ss_asg (se_lst sb_nil) (sg_name (by decide)))
  (ss_seq (ss_asg (se_op so_ix se_var se_var) (sg_name (by decide)))
  (ss_seq (ss_for (si_seq se_var) (sg_name (by decide)) (ss_end (ss_if (st_test (se_op so_b (se_op so_ix se_var se_var) se_var)) (ss_seq (ss_asg (se_op so_ix se_var se_var) (sg_name (by decide)))
  (ss_drop (se_app (sb_cons se_var sb_nil)))) ss_next)))
  (ss_ret se_mv))))⟩
theorem ok_holders : FnG P w K mg base CX0 2 T.f_holders T.d_holders ["row", "place"] (spT K C_holders) := by
  have G_check_place := ok_check_place (P := P) (w := w) (base := base) T
  have G_rising := ok_rising (P := P) (w := w) (base := base) T
  exact ok_fn T.F_holders sc_holders rfl rfl (by decide) fun cdv A out s H E hgd hr => ⟨_, (pss_cons (ps_expr (pe_callG G_check_place hgd (room hr) (by rfl) T.g_check_place T.F_check_place.kp T.b_check_place .nil pass0 (pa_cons (pv 0) (pa_cons (pv 1) pa_nil))))
  (pss_cons (ps_set (i := 2) sc_holders.nd rfl (.inl rfl) (pe_callG G_rising hgd (room hr) (by rfl) T.g_rising T.F_rising.kp T.b_rising .nil pass0 (pa_cons (pv 0) (pa_cons (pv 1) (pa_cons (pe_listDn rfl (by rfl) T.m_list (by rfl) T.m_range (pa_cons (pe_op op_sub (pv 1) pe_int) (pa_cons (pe_un un_neg pe_int) (pa_cons (pe_un un_neg pe_int) pa_nil)))) pa_nil)))))
  (pss_cons (ps_set (i := 3) sc_holders.nd rfl (.inl rfl) (pe_callG G_rising hgd (room hr) (by rfl) T.g_rising T.F_rising.kp T.b_rising .nil pass0 (pa_cons (pv 0) (pa_cons (pv 1) (pa_cons (pe_listRg rfl (by rfl) T.m_list (prg_2 (by rfl) T.m_range (pe_op (addK K rfl) (pv 1) pe_int) (pe_callB (lenK K rfl) (by rfl) T.m_len (by decide +kernel) (pa_cons (pv 0) pa_nil)))) pa_nil)))))
  (pss_one (ps_ret (pe_callB (sortedAK K rfl) (by rfl) T.m_sorted (by decide +kernel) (pa_cons (pe_op (addK K rfl) (pv 2) (pv 3)) pa_nil))))))), (ss_seq (ss_drop (se_call (sr_val se_var (sr_val se_var sr_nil))))
  (ss_seq (ss_asg (se_call (sr_val se_var (sr_val se_var (sr_val (se_ldn (sb_cons (se_op so_i se_var se_int) (sb_cons (se_un su_neg se_int) (sb_cons (se_un su_neg se_int) sb_nil)))) sr_nil)))) (sg_name (by decide)))
  (ss_seq (ss_asg (se_call (sr_val se_var (sr_val se_var (sr_val (se_lr2 (se_op so_add se_var se_int) (se_cb sc_len (sb_cons se_var sb_nil))) sr_nil)))) (sg_name (by decide)))
  (ss_ret (se_cb sc_sorted (sb_cons (se_op so_add se_var se_var) sb_nil))))))⟩
theorem ok_greatest_depth : FnG P w K mg base CX0 3 T.f_greatest_depth T.d_greatest_depth ["row", "place"] (spT K C_greatest_depth) := by
  have G_holders := ok_holders (P := P) (w := w) (base := base) T
  exact ok_fn T.F_greatest_depth sc_greatest_depth rfl rfl (by decide) fun cdv A out s H E hgd hr => ⟨_, (pss_one (ps_ret (pe_callB (lenK K rfl) (by rfl) T.m_len (by decide +kernel) (pa_cons (pe_callG G_holders hgd (room hr) (by rfl) T.g_holders T.F_holders.kp T.b_holders .nil pass0 (pa_cons (pv 0) (pa_cons (pv 1) pa_nil))) pa_nil)))), (ss_ret (se_cb sc_len (sb_cons (se_call (sr_val se_var (sr_val se_var sr_nil))) sb_nil)))⟩
theorem ok_deep_history : FnG P w K mg base CX0 2 T.f_deep_history T.d_deep_history ["row", "place"] (spT K C_deep_history) := by
  have G_check_place := ok_check_place (P := P) (w := w) (base := base) T
  exact ok_fn T.F_deep_history sc_deep_history rfl rfl (by decide) fun cdv A out s H E hgd hr => ⟨_, (pss_cons (ps_expr (pe_callG G_check_place hgd (room hr) (by rfl) T.g_check_place T.F_check_place.kp T.b_check_place .nil pass0 (pa_cons (pv 0) (pa_cons (pv 1) pa_nil))))
  (pss_cons (ps_set (i := 2) sc_deep_history.nd rfl (.inl rfl) (pv 1))
  (pss_cons (ps_set (i := 3) sc_deep_history.nd rfl (.inl rfl) (pv 1))
  (pss_cons (ps_set (i := 4) sc_deep_history.nd rfl (.inl rfl) (pe_lst pa_nil))
  (pss_cons (ps_while PassesOwn.never (pt_cmpR op_lt (pe_callB (lenK K rfl) (by rfl) T.m_len (by decide +kernel) (pa_cons (pv 4) pa_nil)) (pe_op op_sub (pe_callB (lenK K rfl) (by rfl) T.m_len (by decide +kernel) (pa_cons (pv 0) pa_nil)) pe_int) (nomark _)) (pss_one (ps_if (PW.pt (pw_and (pt_cmpR op_gt (pv 2) pe_int (nomark _)) (pw_and1 (PW.pt (pw_or (pt_cmpR (eqK K rfl hr.units) (pv 3) (pe_op op_sub (pe_callB (lenK K rfl) (by rfl) T.m_len (by decide +kernel) (pa_cons (pv 0) pa_nil)) pe_int) (nomark _)) (pw_or1 (pt_cmpR op_lt (pe_ix (ixK K rfl) (pv 0) (pe_op op_sub (pv 2) pe_int) (fun _ _ => rfl)) (pe_ix (ixK K rfl) (pv 0) (pe_op (addK K rfl) (pv 3) pe_int) (fun _ _ => rfl)) (nomark _)))))))) (pss_cons (ps_aug (i := 2) sc_deep_history.nd rfl (.inl rfl) pe_int ip_sub)
  (pss_one (ps_expr (pe_bm PySem.F.plainAttrs_list PySem.F.slot_list_append PySem.F.type_list_append mt_append (pv 4) (pa_cons (pv 2) pa_nil))))) (pss_cons (ps_expr (pe_bm PySem.F.plainAttrs_list PySem.F.slot_list_append PySem.F.type_list_append mt_append (pv 4) (pa_cons (pv 3) pa_nil)))
  (pss_one (ps_aug (i := 3) sc_deep_history.nd rfl (.inl rfl) pe_int ip_add))))))
  (pss_one (ps_ret (pv 4)))))))), (ss_seq (ss_drop (se_call (sr_val se_var (sr_val se_var sr_nil))))
  (ss_seq (ss_asg se_var (sg_name (by decide)))
  (ss_seq (ss_asg se_var (sg_name (by decide)))
  (ss_seq (ss_asg (se_lst sb_nil) (sg_name (by decide)))
  (ss_seq (ss_while (st_test (se_op so_b (se_pk (se_cb sc_len (sb_cons se_var sb_nil))) (se_op so_i (se_cb sc_len (sb_cons se_var sb_nil)) se_int))) (ss_if (st_and (st_test (se_op so_b se_var se_int)) (st_or (st_test (se_op so_eq se_var (se_op so_i (se_cb sc_len (sb_cons se_var sb_nil)) se_int))) (st_test (se_op so_b (se_op so_ix se_var (se_op so_i se_var se_int)) (se_op so_ix se_var (se_op so_add se_var se_int)))))) (ss_seq (ss_aug (by decide) se_int)
  (ss_drop (se_app (sb_cons se_var sb_nil)))) (ss_seq (ss_drop (se_app (sb_cons se_var sb_nil)))
  (ss_aug (by decide) se_int))))
  (ss_ret se_mv))))))⟩
theorem ok_fewest_moves : FnG P w K mg base CX0 3 T.f_fewest_moves T.d_fewest_moves ["row", "one", "other"] (spT K C_fewest_moves) := by
  have G_check_place := ok_check_place (P := P) (w := w) (base := base) T
  have G_holders := ok_holders (P := P) (w := w) (base := base) T
  exact ok_fn T.F_fewest_moves sc_fewest_moves rfl rfl (by decide) fun cdv A out s H E hgd hr => ⟨_, (pss_cons (ps_expr (pe_callG G_check_place hgd (room hr) (by rfl) T.g_check_place T.F_check_place.kp T.b_check_place .nil pass0 (pa_cons (pv 0) (pa_cons (pv 1) pa_nil))))
  (pss_cons (ps_expr (pe_callG G_check_place hgd (room hr) (by rfl) T.g_check_place T.F_check_place.kp T.b_check_place .nil pass0 (pa_cons (pv 0) (pa_cons (pv 2) pa_nil))))
  (pss_cons (ps_if (pt_cmpR (niK K rfl (units65 hr)) (pv 2) (pe_callG G_holders hgd (room hr) (by rfl) T.g_holders T.F_holders.kp T.b_holders .nil pass0 (pa_cons (pv 0) (pa_cons (pv 1) pa_nil))) rfl) (pss_one (ps_ret pe_non)) pss_nil)
  (pss_one (ps_ret (pe_callB cr_abs (by rfl) T.m_abs (by decide +kernel) (pa_cons (pe_op op_sub (pv 1) (pv 2)) pa_nil))))))), (ss_seq (ss_drop (se_call (sr_val se_var (sr_val se_var sr_nil))))
  (ss_seq (ss_drop (se_call (sr_val se_var (sr_val se_var sr_nil))))
  (ss_seq (ss_if (st_test (se_op so_ni se_var (se_call (sr_val se_var (sr_val se_var sr_nil))))) (ss_ret se_non) ss_next)
  (ss_ret (se_cb sc_abs (sb_cons (se_op so_i se_var se_var) sb_nil))))))⟩
theorem ok_l_box : FnG P w K mg base CX0 1 T.f_l_box T.d_l_box ["_law_script", "_law_k"] (spT K C_l_box) := by
  exact ok_fn T.F_l_box sc_l_box rfl rfl (by decide) fun cdv A out s H E hgd hr => ⟨_, (pss_cons (ps_set (i := 2) sc_l_box.nd rfl (.inl rfl) pe_int)
  (pss_cons (ps_if (pt_cmpR op_lt (pv 1) (pe_callB (lenK K rfl) (by rfl) T.m_len (by decide +kernel) (pa_cons (pv 0) pa_nil)) (nomark _)) (pss_one (ps_set (i := 2) sc_l_box.nd rfl (.inl rfl) (pe_ix (ixK K rfl) (pv 0) (pv 1) (fun _ _ => rfl)))) pss_nil)
  (pss_one (ps_ret (pe_lst (pa_cons (pe_op op_mulX (pe_callB cr_abs (by rfl) T.m_abs (by decide +kernel) (pa_cons (pv 2) pa_nil)) (pe_callTy cr_int (by rfl) T.m_int (by decide +kernel) (pa_cons (pe_cmpR op_ge (pe_callB cr_abs (by rfl) T.m_abs (by decide +kernel) (pa_cons (pv 2) pa_nil)) (pe_op op_pow pe_int pe_int) (nomark _)) pa_nil))) (pa_cons (pe_op op_mod (pe_op op_mulX (pe_op (addK K rfl) (pe_op (addK K rfl) (pe_op op_mod (pv 2) pe_int) (pe_op op_mulX pe_int (pv 1))) pe_int) pe_int) pe_int) (pa_cons pe_int pa_nil)))))))), (ss_seq (ss_asg se_int (sg_name (by decide)))
  (ss_seq (ss_if (st_test (se_op so_b se_var (se_cb sc_len (sb_cons se_var sb_nil)))) (ss_asg (se_op so_ix se_var se_var) (sg_name (by decide))) ss_next)
  (ss_ret (se_lst (sb_cons (se_op so_mul (se_cb sc_abs (sb_cons se_var sb_nil)) (se_cb sc_int (sb_cons (se_op so_b (se_cb sc_abs (sb_cons se_var sb_nil)) (se_op so_pow se_int se_int)) sb_nil))) (sb_cons (se_op so_mod (se_op so_mul (se_op so_add (se_op so_add (se_op so_mod se_var se_int) (se_op so_mul se_int se_var)) se_int) se_int) se_int) (sb_cons se_int sb_nil)))))))⟩
theorem ok_l_take : ∀ k : Nat, FnG P w K mg base CX0 (0 + k) T.f_l_take T.d_l_take ["_law_box_here", "_law_span"] (spT K (C_l_take k))
  | 0 => ok_no
  | k + 1 => by
    have G_l_take := ok_l_take k
    exact ok_fn (k := 0 + k) T.F_l_take sc_l_take rfl rfl (by decide) fun cdv A out s H E hgd hr => ⟨_, (pss_cons (ps_if (pt_cmpR op_gt (pe_ix (ixK K rfl) (pv 0) pe_int (fun _ _ => rfl)) pe_int (nomark _)) (pss_cons (ps_set (i := 2) sc_l_take.nd rfl (.inl rfl) (pe_op op_mod (pe_ix (ixK K rfl) (pv 0) pe_int (fun _ _ => rfl)) (pv 1)))
  (pss_cons (ps_asg (pe_op op_fdiv (pe_ix (ixK K rfl) (pv 0) pe_int (fun _ _ => rfl)) (pv 1)) (pg_sub (pv 0) pe_int set_list))
  (pss_one (ps_ret (pv 2))))) pss_nil)
  (pss_cons (ps_if (pt_cmpR op_gt (pv 1) (pe_op op_pow pe_int pe_int) (nomark _)) (pss_one (ps_ret (pe_op op_mod (pe_op (addK K rfl) (pe_callG G_l_take hgd hr (by rfl) T.g_l_take T.F_l_take.kp T.b_l_take .nil pass0 (pa_cons (pv 0) (pa_cons (pe_op op_pow pe_int pe_int) pa_nil))) (pe_op op_mulX (pe_op op_pow pe_int pe_int) (pe_callG G_l_take hgd hr (by rfl) T.g_l_take T.F_l_take.kp T.b_l_take .nil pass0 (pa_cons (pv 0) (pa_cons (pe_op (addK K rfl) (pe_op op_fdiv (pv 1) (pe_op op_pow pe_int pe_int)) pe_int) pa_nil))))) (pv 1)))) pss_nil)
  (pss_cons (ps_asg (pe_op (addK K rfl) (pe_ix (ixK K rfl) (pv 0) pe_int (fun _ _ => rfl)) pe_int) (pg_sub (pv 0) pe_int set_list))
  (pss_cons (ps_set (i := 3) sc_l_take.nd rfl (.inl rfl) (pe_op op_mod (pe_op op_pow (pe_op (addK K rfl) (pe_ix (ixK K rfl) (pv 0) pe_int (fun _ _ => rfl)) (pe_op op_mulX pe_int (pe_ix (ixK K rfl) (pv 0) pe_int (fun _ _ => rfl)))) pe_int) pe_int))
  (pss_one (ps_ret (pe_op op_mod (pe_op op_fdiv (pe_op op_mod (pe_op (addK K rfl) (pe_op op_mulX (pv 3) (pe_op (addK K rfl) (pe_op op_mod (pv 3) pe_int) pe_int)) (pe_op op_mulX (pe_ix (ixK K rfl) (pv 0) pe_int (fun _ _ => rfl)) pe_int)) pe_int) pe_int) (pv 1)))))))), (ss_seq (ss_if (st_test (se_op so_b (se_pk (se_op so_ix se_var se_int)) se_int)) (ss_seq (ss_asg (se_op so_mod (se_pk (se_op so_ix se_var se_int)) se_var) (sg_name (by decide)))
  (ss_seq (ss_asg (se_op so_div (se_pk (se_op so_ix se_var se_int)) se_var) (sg_set se_int))
  (ss_ret se_mv))) ss_next)
  (ss_seq (ss_if (st_test (se_op so_b se_var (se_op so_pow se_int se_int))) (ss_ret (se_op so_mod (se_op so_add (se_call (sr_lend (sr_val (se_op so_pow se_int se_int) sr_nil))) (se_op so_mul (se_op so_pow se_int se_int) (se_call (sr_lend (sr_val (se_op so_add (se_op so_div se_var (se_op so_pow se_int se_int)) se_int) sr_nil))))) se_var)) ss_next)
  (ss_seq (ss_asg (se_op so_add (se_pk (se_op so_ix se_var se_int)) se_int) (sg_set se_int))
  (ss_seq (ss_asg (se_op so_mod (se_op so_pow (se_op so_add (se_pk (se_op so_ix se_var se_int)) (se_op so_mul se_int (se_pk (se_op so_ix se_var se_int)))) se_int) se_int) (sg_name (by decide)))
  (ss_ret (se_op so_mod (se_op so_div (se_op so_mod (se_op so_add (se_op so_mul se_var (se_op so_add (se_op so_mod se_var se_int) se_int)) (se_op so_mul (se_pk (se_op so_ix se_var se_int)) se_int)) se_int) se_int) se_var))))))⟩
theorem ok_l_pick : FnG P w K mg base CX0 3 T.f_l_pick T.d_l_pick ["_law_box_here", "_law_some"] (spT K C_l_pick) := by
  have G_l_take := ok_l_take (P := P) (w := w) (base := base) T 2
  exact ok_fn T.F_l_pick sc_l_pick rfl rfl (by decide) fun cdv A out s H E hgd hr => ⟨_, (pss_one (ps_ret (pe_ix (ixK K rfl) (pv 1) (pe_callG G_l_take hgd (room hr) (by rfl) T.g_l_take T.F_l_take.kp T.b_l_take .nil pass0 (pa_cons (pv 0) (pa_cons (pe_callB (lenK K rfl) (by rfl) T.m_len (by decide +kernel) (pa_cons (pv 1) pa_nil)) pa_nil))) (fun _ _ => rfl)))), (ss_ret (se_op so_ix se_var (se_call (sr_lend (sr_val (se_cb sc_len (sb_cons se_var sb_nil)) sr_nil)))))⟩
theorem ok_l_same : ∀ k : Nat, FnG P w K mg base CX0 (0 + k) T.f_l_same T.d_l_same ["_law_found", "_law_due"] (spT K (C_l_same k))
  | 0 => ok_no
  | k + 1 => by
    have G_l_same := ok_l_same k
    exact ok_fn (k := 0 + k) T.F_l_same sc_l_same rfl rfl (by decide) fun cdv A out s H E hgd hr => ⟨_, (pss_cons (ps_if (pt_val (pe_callB (isiTK K rfl) (by rfl) T.m_isinstance (by decide +kernel) (pa_cons (pv 1) (pa_cons (pe_tup (pa_cons (pe_bltn (v := .ty "list") (by rfl) T.m_list (by decide +kernel) rfl) (pa_cons (pe_bltn (v := .ty "tuple") (by rfl) T.m_tuple (by decide +kernel) rfl) pa_nil))) pa_nil)))) (pss_cons (ps_if (PW.pt (pw_or (pt_cmpR (neK K rfl hr.units) (pe_callB (isiK K rfl) (by rfl) T.m_isinstance (by decide +kernel) (pa_cons (pv 0) (pa_cons (pe_bltn (v := .ty "list") (by rfl) T.m_list (by decide +kernel) rfl) pa_nil))) (pe_callB (isiK K rfl) (by rfl) T.m_isinstance (by decide +kernel) (pa_cons (pv 1) (pa_cons (pe_bltn (v := .ty "list") (by rfl) T.m_list (by decide +kernel) rfl) pa_nil))) (nomark _)) (pw_or1 (pt_cmpR (neK K rfl hr.units) (pe_callB (isiK K rfl) (by rfl) T.m_isinstance (by decide +kernel) (pa_cons (pv 0) (pa_cons (pe_bltn (v := .ty "tuple") (by rfl) T.m_tuple (by decide +kernel) rfl) pa_nil))) (pe_callB (isiK K rfl) (by rfl) T.m_isinstance (by decide +kernel) (pa_cons (pv 1) (pa_cons (pe_bltn (v := .ty "tuple") (by rfl) T.m_tuple (by decide +kernel) rfl) pa_nil))) (nomark _))))) (pss_one (ps_ret pe_bl)) pss_nil)
  (pss_one (ps_ret (pe_and (pe_cmpR (eqK K rfl hr.units) (pe_callB (lenK K rfl) (by rfl) T.m_len (by decide +kernel) (pa_cons (pv 0) pa_nil)) (pe_callB (lenK K rfl) (by rfl) T.m_len (by decide +kernel) (pa_cons (pv 1) pa_nil)) (nomark _)) (pe_one (pe_callB (allK K rfl rfl) (by rfl) T.m_all (by decide +kernel) (pa_cons (pe_lc (own := [("_law_mine", 2), ("_law_its", 3)]) (by rfl) sc_l_same.nd (RZ.pi_zipA (by rfl) T.m_zip (pa_cons (pv 0) (pa_cons (pv 1) pa_nil))) (blkOk_by (own := [("_law_mine", 2), ("_law_its", 3)]) (N := ["_law_found", "_law_due", "_law_mine", "_law_its"]) (sc := defScope s_l_same) (by decide +kernel)) (fun _ _ _ _ _ => (pg_tupK K rfl (n := 2) rfl (pgs_cons (pg_name (i := 2) sc_l_same.nd rfl (by first | exact .inl rfl | exact .inr rfl)) (pgs_cons (pg_name (i := 3) sc_l_same.nd rfl (by first | exact .inl rfl | exact .inr rfl)) pgs_nil)))) (fun _ _ _ _ _ => pts_nil) (fun _ _ _ _ _ => (pe_callG G_l_same hgd hr (by rfl) T.g_l_same T.F_l_same.kp T.b_l_same .nil pass0 (pa_cons (pv 2) (pa_cons (pv 3) pa_nil))))) pa_nil))))))) pss_nil)
  (pss_cons (ps_if (PW.pt (pw_or (pt_cmpR op_isNX (pv 1) pe_non (nomark _)) (pw_or1 (pt_val (pe_callB (isiK K rfl) (by rfl) T.m_isinstance (by decide +kernel) (pa_cons (pv 1) (pa_cons (pe_bltn (v := .ty "str") (by rfl) T.m_str (by decide +kernel) rfl) pa_nil))))))) (pss_one (ps_ret (pe_and (pe_cmpR (eqK K rfl hr.units) (pv 0) (pv 1) (nomark _)) (pe_one (pe_cmpR (eqK K rfl hr.units) (pe_callB (isiK K rfl) (by rfl) T.m_isinstance (by decide +kernel) (pa_cons (pv 0) (pa_cons (pe_bltn (v := .ty "str") (by rfl) T.m_str (by decide +kernel) rfl) pa_nil))) (pe_callB (isiK K rfl) (by rfl) T.m_isinstance (by decide +kernel) (pa_cons (pv 1) (pa_cons (pe_bltn (v := .ty "str") (by rfl) T.m_str (by decide +kernel) rfl) pa_nil))) (nomark _)))))) pss_nil)
  (pss_one (ps_ret (pe_and (pe_callB (isiK K rfl) (by rfl) T.m_isinstance (by decide +kernel) (pa_cons (pv 0) (pa_cons (pe_bltn (v := .ty "int") (by rfl) T.m_int (by decide +kernel) rfl) pa_nil))) (pe_and (pe_cmpR (eqK K rfl hr.units) (pe_callB (isiK K rfl) (by rfl) T.m_isinstance (by decide +kernel) (pa_cons (pv 0) (pa_cons (pe_bltn (v := .ty "bool") (by rfl) T.m_bool (by decide +kernel) rfl) pa_nil))) (pe_callB (isiK K rfl) (by rfl) T.m_isinstance (by decide +kernel) (pa_cons (pv 1) (pa_cons (pe_bltn (v := .ty "bool") (by rfl) T.m_bool (by decide +kernel) rfl) pa_nil))) (nomark _)) (pe_one (pe_cmpR (eqK K rfl hr.units) (pv 0) (pv 1) (nomark _))))))))), (ss_seq (ss_if (st_B (se_isi2 (by decide) (by decide) se_var)) (ss_seq (ss_if (st_or (st_test (se_op so_ne (se_isi (by decide) se_var) (se_isi (by decide) se_var))) (st_test (se_op so_ne (se_isi (by decide) se_var) (se_isi (by decide) se_var)))) (ss_ret se_bl) ss_next)
  (ss_ret (se_and (se_op so_eq (se_cb sc_len (sb_cons se_var sb_nil)) (se_cb sc_len (sb_cons se_var sb_nil))) (se_cb sc_all (sb_cons (se_lc (by decide) (si_zip (sb_cons se_var (sb_cons se_var sb_nil))) (sgw_tup (sgsw_cons (sgw_name (by decide) (by decide)) (sgsw_cons (sgw_name (by decide) (by decide)) sgsw_nil))) st_yes (se_call (sr_val se_var (sr_val se_var sr_nil)))) sb_nil))))) ss_next)
  (ss_seq (ss_if (st_or (st_test (se_op so_isN se_var se_non)) (st_B (se_isi (by decide) se_var))) (ss_ret (se_and (se_op so_eq se_var se_var) (se_op so_eq (se_isi (by decide) se_var) (se_isi (by decide) se_var)))) ss_next)
  (ss_ret (se_and (se_isi (by decide) se_var) (se_and (se_op so_eq (se_isi (by decide) se_var) (se_isi (by decide) se_var)) (se_op so_eq se_var se_var))))))⟩
theorem ok_l_shuffled : FnG P w K mg base CX0 3 T.f_l_shuffled T.d_l_shuffled ["_law_box_here", "_law_some"] (spT K C_l_shuffled) := by
  have G_l_take := ok_l_take (P := P) (w := w) (base := base) T 2
  exact ok_fn T.F_l_shuffled sc_l_shuffled rfl rfl (by decide) fun cdv A out s H E hgd hr => ⟨_, (pss_cons (ps_par (i := 2) (j := 3) (by rfl) sc_l_shuffled.nd rfl rfl (by decide) rfl rfl (pa_cons (pe_callTy (listK K rfl) (by rfl) T.m_list (by decide +kernel) (pa_cons (pv 1) pa_nil)) (pa_cons (pe_lst pa_nil) pa_nil)) (by rfl))
  (pss_cons (ps_while PassesOwn.never (pt_cmpR (neK K rfl hr.units) (pv 2) (pe_lst pa_nil) (nomark _)) (pss_one (ps_expr (pe_bm PySem.F.plainAttrs_list PySem.F.slot_list_append PySem.F.type_list_append mt_append (pv 3) (pa_cons (pe_bm PySem.F.plainAttrs_list PySem.F.slot_list_pop PySem.F.type_list_pop mt_popAt (pv 2) (pa_cons (pe_callG G_l_take hgd (room hr) (by rfl) T.g_l_take T.F_l_take.kp T.b_l_take .nil pass0 (pa_cons (pv 0) (pa_cons (pe_callB (lenK K rfl) (by rfl) T.m_len (by decide +kernel) (pa_cons (pv 2) pa_nil)) pa_nil))) pa_nil)) pa_nil)))))
  (pss_one (ps_ret (pv 3))))), (ss_seq (ss_par (by decide) (by decide) (sb_cons (se_cb sc_list (sb_cons se_var sb_nil)) (sb_cons (se_lst sb_nil) sb_nil)))
  (ss_seq (ss_while (st_test (se_pk (se_op so_ne se_var (se_lst sb_nil)))) (ss_drop (se_app (sb_cons (se_popAt (sb_cons (se_call (sr_lend (sr_val (se_pk (se_cb sc_len (sb_cons se_var sb_nil))) sr_nil))) sb_nil)) sb_nil))))
  (ss_ret se_mv)))⟩
theorem ok_l_sizes : FnG P w K mg base CX0 4 T.f_l_sizes T.d_l_sizes ["_law_box_here", "_law_most"] (spT K C_l_sizes) := by
  have G_l_take := ok_l_take (P := P) (w := w) (base := base) T 2
  have G_l_pick := ok_l_pick (P := P) (w := w) (base := base) T
  have G_l_shuffled := ok_l_shuffled (P := P) (w := w) (base := base) T
  exact ok_fn T.F_l_sizes sc_l_sizes rfl rfl (by decide) fun cdv A out s H E hgd hr => ⟨_, (pss_cons (ps_asg (pe_tup (pa_cons (pe_op (addK K rfl) pe_int (pe_callG G_l_take hgd (room hr) (by rfl) T.g_l_take T.F_l_take.kp T.b_l_take .nil pass0 (pa_cons (pv 0) (pa_cons (pv 1) pa_nil)))) (pa_cons (pe_callG G_l_pick hgd (room hr) (by rfl) T.g_l_pick T.F_l_pick.kp T.b_l_pick .nil pass0 (pa_cons (pv 0) (pa_cons (pe_lst (pa_cons pe_int (pa_cons pe_int (pa_cons pe_int (pa_cons (pe_op op_mulX pe_int (pe_op op_pow pe_int pe_int)) pa_nil))))) pa_nil))) (pa_cons pe_int (pa_cons (pe_lst pa_nil) pa_nil))))) (pg_tupK K rfl (n := 4) rfl (pgs_cons (pg_name (i := 2) sc_l_sizes.nd rfl (.inl rfl)) (pgs_cons (pg_name (i := 3) sc_l_sizes.nd rfl (.inl rfl)) (pgs_cons (pg_name (i := 4) sc_l_sizes.nd rfl (.inl rfl)) (pgs_cons (pg_name (i := 5) sc_l_sizes.nd rfl (.inl rfl)) pgs_nil))))))
  (pss_cons (ps_for PassesOwn.never rfl (pi_range1 (by rfl) T.m_range (pa_cons (pv 2) pa_nil)) (pg_name (i := 6) sc_l_sizes.nd rfl (.inl rfl)) (pss_cons (ps_set (i := 4) sc_l_sizes.nd rfl (.inl rfl) (pe_op (addK K rfl) (pe_op (addK K rfl) (pv 4) pe_int) (pe_callG G_l_take hgd (room hr) (by rfl) T.g_l_take T.F_l_take.kp T.b_l_take .nil pass0 (pa_cons (pv 0) (pa_cons (pv 3) pa_nil)))))
  (pss_one (ps_expr (pe_bm PySem.F.plainAttrs_list PySem.F.slot_list_append PySem.F.type_list_append mt_append (pv 5) (pa_cons (pv 4) pa_nil))))))
  (pss_cons (ps_set (i := 7) sc_l_sizes.nd rfl (.inl rfl) (pe_callG G_l_take hgd (room hr) (by rfl) T.g_l_take T.F_l_take.kp T.b_l_take .nil pass0 (pa_cons (pv 0) (pa_cons pe_int pa_nil))))
  (pss_cons (ps_if (pt_cmpR (eqK K rfl hr.units) (pv 7) pe_int (nomark _)) (pss_one (ps_ret (pe_callTy (tupleK K rfl) (by rfl) T.m_tuple (by decide +kernel) (pa_cons (pv 5) pa_nil)))) pss_nil)
  (pss_cons (ps_if (pt_cmpR (eqK K rfl hr.units) (pv 7) pe_int (nomark _)) (pss_one (ps_ret (pe_callTy (tupleK K rfl) (by rfl) T.m_tuple (by decide +kernel) (pa_cons (pe_either (pe_stepL (pv 5) po_none po_none (po_some (pe_un un_neg pe_int))) (pe_revT (pv 5) (pe_un un_neg pe_int))) pa_nil)))) pss_nil)
  (pss_cons (ps_if (pt_cmpR (eqK K rfl hr.units) (pv 7) pe_int (nomark _)) (pss_one (ps_ret (pe_callTy (tupleK K rfl) (by rfl) T.m_tuple (by decide +kernel) (pa_cons (pe_op (addK K rfl) (pe_stepL (pv 5) po_none po_none (po_some pe_int)) (pe_either (pe_stepL (pe_stepL (pv 5) (po_some pe_int) po_none (po_some pe_int)) po_none po_none (po_some (pe_un un_neg pe_int))) (pe_revT (pe_stepL (pv 5) (po_some pe_int) po_none (po_some pe_int)) (pe_un un_neg pe_int)))) pa_nil)))) pss_nil)
  (pss_one (ps_ret (pe_callTy (tupleK K rfl) (by rfl) T.m_tuple (by decide +kernel) (pa_cons (pe_callG G_l_shuffled hgd (room hr) (by rfl) T.g_l_shuffled T.F_l_shuffled.kp T.b_l_shuffled .nil pass0 (pa_cons (pv 0) (pa_cons (pv 5) pa_nil))) pa_nil)))))))))), (ss_seq (ss_parT (is := [2, 3, 4, 5]) (by decide) rfl (by decide) (sb_cons (se_op so_add se_int (se_call (sr_lend (sr_val se_var sr_nil)))) (sb_cons (se_call (sr_lend (sr_val (se_lst (sb_cons se_int (sb_cons se_int (sb_cons se_int (sb_cons (se_op so_mul se_int (se_op so_pow se_int se_int)) sb_nil))))) sr_nil))) (sb_cons se_int (sb_cons (se_lst sb_nil) sb_nil)))))
  (ss_seq (ss_for (si_r1 (sb_cons se_var sb_nil)) (sg_name (by decide)) (ss_end (ss_seq (ss_asg (se_op so_add (se_op so_add se_var se_int) (se_call (sr_lend (sr_val se_var sr_nil)))) (sg_name (by decide)))
  (ss_drop (se_app (sb_cons se_var sb_nil))))))
  (ss_seq (ss_asg (se_call (sr_lend (sr_val se_int sr_nil))) (sg_name (by decide)))
  (ss_seq (ss_if (st_test (se_op so_eq se_var se_int)) (ss_ret (se_cb sc_tuple (sb_cons se_var sb_nil))) ss_next)
  (ss_seq (ss_if (st_test (se_op so_eq se_var se_int)) (ss_ret (se_cb sc_tuple (sb_cons (se_ei (se_step se_var sp_none sp_none (sp_some (se_un su_neg se_int))) (se_revT se_var (se_un su_neg se_int))) sb_nil))) ss_next)
  (ss_seq (ss_if (st_test (se_op so_eq se_var se_int)) (ss_ret (se_cb sc_tuple (sb_cons (se_op so_add (se_step se_var sp_none sp_none (sp_some se_int)) (se_ei (se_step (se_step se_var (sp_some se_int) sp_none (sp_some se_int)) sp_none sp_none (sp_some (se_un su_neg se_int))) (se_revT (se_step se_var (sp_some se_int) sp_none (sp_some se_int)) (se_un su_neg se_int)))) sb_nil))) ss_next)
  (ss_ret (se_cb sc_tuple (sb_cons (se_call (sr_lend (sr_val se_var sr_nil))) sb_nil)))))))))⟩
theorem ok_l_runs : FnG P w K mg base CX0 1 T.f_l_runs T.d_l_runs ["_law_count", "_law_closed"] (spT K C_l_runs) := by
  exact ok_fn T.F_l_runs sc_l_runs rfl rfl (by decide) fun cdv A out s H E hgd hr => ⟨_, (pss_cons (ps_set (i := 2) sc_l_runs.nd rfl (.inl rfl) (pe_lst (pa_cons (pe_lst (pa_cons pe_int pa_nil)) pa_nil)))
  (pss_cons (ps_for PassesOwn.never rfl (pi_range2 (by rfl) T.m_range (pa_cons pe_int (pa_cons (pv 0) pa_nil))) (pg_name (i := 3) sc_l_runs.nd rfl (.inl rfl)) (pss_one (ps_if (pt_cmpR (inK K rfl (units65 hr)) (pe_op op_sub (pv 3) pe_int) (pv 1) rfl) (pss_one (ps_expr (pe_bm PySem.F.plainAttrs_list PySem.F.slot_list_append PySem.F.type_list_append mt_append (pe_ix (ixK K rfl) (pv 2) (pe_un un_neg pe_int) (fun _ _ => rfl)) (pa_cons (pv 3) pa_nil)))) (pss_one (ps_expr (pe_bm PySem.F.plainAttrs_list PySem.F.slot_list_append PySem.F.type_list_append mt_append (pv 2) (pa_cons (pe_lst (pa_cons (pv 3) pa_nil)) pa_nil)))))))
  (pss_one (ps_ret (pv 2))))), (ss_seq (ss_asg (se_lst (sb_cons (se_lst (sb_cons se_int sb_nil)) sb_nil)) (sg_name (by decide)))
  (ss_seq (ss_for (si_r2 (sb_cons se_int (sb_cons se_var sb_nil))) (sg_name (by decide)) (ss_end (ss_if (st_test (se_op so_in (se_op so_i se_var se_int) se_var)) (ss_drop (se_appAt (fun σ H Q h => ⟨_, rfl, h⟩))) (ss_drop (se_app (sb_cons (se_lst (sb_cons se_var sb_nil)) sb_nil))))))
  (ss_ret se_mv)))⟩
theorem ok_l_top : FnG P w K mg base CX0 1 T.f_l_top T.d_l_top ["_law_sizes_here", "_law_run"] (spT K C_l_top) := by
  exact ok_fn T.F_l_top sc_l_top rfl rfl (by decide) fun cdv A out s H E hgd hr => ⟨_, (pss_one (ps_ret (pe_ix (ixK K rfl) (pe_callB (maxK K rfl rfl (units65 hr)) (by rfl) T.m_max (by decide +kernel) (pa_cons (pe_lc (own := [("_law_spot", 2)]) (by rfl) sc_l_top.nd (pi_seqK K rfl (pv 1)) (blkOk_by (own := [("_law_spot", 2)]) (N := ["_law_sizes_here", "_law_run", "_law_spot"]) (sc := defScope s_l_top) (by decide +kernel)) (fun _ _ _ _ _ => (pg_name (i := 2) sc_l_top.nd rfl (by first | exact .inl rfl | exact .inr rfl))) (fun _ _ _ _ _ => pts_nil) (fun _ _ _ _ _ => (pe_tupF (pa_cons (pe_ix (ixK K rfl) (pv 0) (pv 2) (fun _ _ => rfl)) (pa_cons (pv 2) pa_nil))))) pa_nil)) pe_int (fun _ _ => rfl)))), (ss_ret (se_op so_ix (se_cb sc_max (sb_cons (se_lc (by decide) (si_seq se_var) (sgw_name (by decide) (by decide)) st_yes (se_tup (sb_cons (se_op so_ix se_var se_var) (sb_cons se_var sb_nil)))) sb_nil)) se_int))⟩
theorem ok_l_moved : FnG P w K mg base CX0 2 T.f_l_moved T.d_l_moved ["_law_sizes_here", "_law_closed", "_law_crack"] (spT K C_l_moved) := by
  have G_l_top := ok_l_top (P := P) (w := w) (base := base) T
  have G_l_runs := ok_l_runs (P := P) (w := w) (base := base) T
  exact ok_fn T.F_l_moved sc_l_moved rfl rfl (by decide) fun cdv A out s H E hgd hr => ⟨_, (pss_cons (ps_setLc (i := 3) (own := [("_law_run", 4)]) (by rfl) sc_l_moved.nd rfl rfl (sw_true rfl rfl rfl (by decide +kernel)) (pi_seqK K rfl (pe_callG G_l_runs hgd (room hr) (by rfl) T.g_l_runs T.F_l_runs.kp T.b_l_runs .nil pass0 (pa_cons (pe_callB (lenK K rfl) (by rfl) T.m_len (by decide +kernel) (pa_cons (pv 0) pa_nil)) (pa_cons (pv 1) pa_nil)))) (blkOk_by (own := [("_law_run", 4)]) (N := ["_law_sizes_here", "_law_closed", "_law_crack", "_law_tops", "_law_run"]) (sc := defScope s_l_moved) (by decide +kernel)) (fun _ _ _ _ _ => (pg_name (i := 4) sc_l_moved.nd rfl (by first | exact .inl rfl | exact .inr rfl))) (fun _ _ _ _ _ => (pts_one (PW.pt (pw_or (pt_cmpR (inK K rfl (units65 hr)) (pv 2) (pv 4) rfl) (pw_or1 (pt_cmpR (inK K rfl (units65 hr)) (pe_op (addK K rfl) (pv 2) pe_int) (pv 4) rfl)))))) (fun _ _ _ _ _ => (pe_callG G_l_top hgd (room hr) (by rfl) T.g_l_top T.F_l_top.kp T.b_l_top .nil pass0 (pa_cons (pv 0) (pa_cons (pv 4) pa_nil)))))
  (pss_one (ps_ret (pe_ifExp (pt_cmpR op_lt (pe_ix (ixK K rfl) (pv 0) (pe_ix (ixK K rfl) (pv 3) pe_int (fun _ _ => rfl)) (fun _ _ => rfl)) (pe_ix (ixK K rfl) (pv 0) (pe_ix (ixK K rfl) (pv 3) pe_int (fun _ _ => rfl)) (fun _ _ => rfl)) (nomark _)) (pe_tupF (pa_cons (pe_ix (ixK K rfl) (pv 3) pe_int (fun _ _ => rfl)) (pa_cons (pe_ix (ixK K rfl) (pv 3) pe_int (fun _ _ => rfl)) pa_nil))) (pe_tupF (pa_cons (pe_ix (ixK K rfl) (pv 3) pe_int (fun _ _ => rfl)) (pa_cons (pe_ix (ixK K rfl) (pv 3) pe_int (fun _ _ => rfl)) pa_nil))))))), (ss_seq (ss_asg (se_lc (by decide) (si_seq (se_call (sr_val (se_cb sc_len (sb_cons se_var sb_nil)) (sr_val se_var sr_nil)))) (sgw_name (by decide) (by decide)) (st_or (st_test (se_op so_in se_var se_var)) (st_test (se_op so_in (se_op so_add se_var se_int) se_var))) (se_call (sr_val se_var (sr_val se_var sr_nil)))) (sg_name (by decide)))
  (ss_ret (se_if (st_test (se_op so_b (se_op so_ix se_var (se_op so_ix se_var se_int)) (se_op so_ix se_var (se_op so_ix se_var se_int)))) (se_tup (sb_cons (se_op so_ix se_var se_int) (sb_cons (se_op so_ix se_var se_int) sb_nil))) (se_tup (sb_cons (se_op so_ix se_var se_int) (sb_cons (se_op so_ix se_var se_int) sb_nil))))))⟩
theorem ok_l_nest : FnG P w K mg base CX0 3 T.f_l_nest T.d_l_nest ["_law_sizes_here", "_law_tour"] (spT K C_l_nest) := by
  have G_l_moved := ok_l_moved (P := P) (w := w) (base := base) T
  exact ok_fn T.F_l_nest sc_l_nest rfl rfl (by decide) fun cdv A out s H E hgd hr => ⟨_, (pss_cons (ps_set (i := 2) sc_l_nest.nd rfl (.inl rfl) (pe_op op_mulX (pe_lst (pa_cons pe_non pa_nil)) (pe_callB (lenK K rfl) (by rfl) T.m_len (by decide +kernel) (pa_cons (pv 0) pa_nil))))
  (pss_cons (ps_for PassesOwn.never rfl (pi_range1 (by rfl) T.m_range (pa_cons (pe_callB (lenK K rfl) (by rfl) T.m_len (by decide +kernel) (pa_cons (pv 1) pa_nil)) pa_nil)) (pg_name (i := 3) sc_l_nest.nd rfl (.inl rfl)) (pss_cons (ps_asg (pe_callG G_l_moved hgd (room hr) (by rfl) T.g_l_moved T.F_l_moved.kp T.b_l_moved .nil pass0 (pa_cons (pv 0) (pa_cons (pe_slice (slK K rfl) (pv 1) po_none (po_some (pv 3))) (pa_cons (pe_ix (ixK K rfl) (pv 1) (pv 3) (fun _ _ => rfl)) pa_nil)))) (pg_tupK K rfl (n := 2) rfl (pgs_cons (pg_name (i := 4) sc_l_nest.nd rfl (.inl rfl)) (pgs_cons (pg_name (i := 5) sc_l_nest.nd rfl (.inl rfl)) pgs_nil))))
  (pss_one (ps_asg (pv 5) (pg_sub (pv 2) (pv 4) set_list)))))
  (pss_one (ps_ret (pe_callTy (tupleK K rfl) (by rfl) T.m_tuple (by decide +kernel) (pa_cons (pv 2) pa_nil)))))), (ss_seq (ss_asg (se_op so_mul (se_lst (sb_cons se_non sb_nil)) (se_cb sc_len (sb_cons se_var sb_nil))) (sg_name (by decide)))
  (ss_seq (ss_for (si_r1 (sb_cons (se_cb sc_len (sb_cons se_var sb_nil)) sb_nil)) (sg_name (by decide)) (ss_end (ss_seq (ss_asg (se_call (sr_val se_var (sr_val (se_sl se_var sp_none (sp_some se_var)) (sr_val (se_op so_ix se_var se_var) sr_nil)))) (sg_tup (sgs_cons (sg_name (by decide)) (sgs_cons (sg_name (by decide)) sgs_nil))))
  (ss_asg se_var (sg_set se_var)))))
  (ss_ret (se_cb sc_tuple (sb_cons se_var sb_nil)))))⟩
theorem ok_l_climb : FnG P w K mg base CX0 1 T.f_l_climb T.d_l_climb ["_law_nest_here", "_law_spot"] (spT K C_l_climb) := by
  exact ok_fn T.F_l_climb sc_l_climb rfl rfl (by decide) fun cdv A out s H E hgd hr => ⟨_, (pss_cons (ps_set (i := 2) sc_l_climb.nd rfl (.inl rfl) (pe_lst pa_nil))
  (pss_cons (ps_while PassesOwn.never (PW.pt (pw_and (pt_cmpR op_notNX (pe_ix (ixK K rfl) (pv 0) (pv 1) (fun _ _ => rfl)) pe_non (nomark _)) (pw_and1 (pt_cmpR op_le (pe_callB (lenK K rfl) (by rfl) T.m_len (by decide +kernel) (pa_cons (pv 2) pa_nil)) (pe_callB (lenK K rfl) (by rfl) T.m_len (by decide +kernel) (pa_cons (pv 0) pa_nil)) (nomark _))))) (pss_cons (ps_set (i := 1) sc_l_climb.nd rfl (.inl rfl) (pe_ix (ixK K rfl) (pv 0) (pv 1) (fun _ _ => rfl)))
  (pss_one (ps_expr (pe_bm PySem.F.plainAttrs_list PySem.F.slot_list_append PySem.F.type_list_append mt_append (pv 2) (pa_cons (pv 1) pa_nil))))))
  (pss_one (ps_ret (pv 2))))), (ss_seq (ss_asg (se_lst sb_nil) (sg_name (by decide)))
  (ss_seq (ss_while (st_and (st_test (se_op so_ntN (se_op so_ix se_var se_var) se_non)) (st_test (se_op so_b (se_pk (se_cb sc_len (sb_cons se_var sb_nil))) (se_cb sc_len (sb_cons se_var sb_nil))))) (ss_seq (ss_asg (se_op so_ix se_var se_var) (sg_name (by decide)))
  (ss_drop (se_app (sb_cons se_var sb_nil)))))
  (ss_ret se_mv)))⟩
theorem ok_l_higher : FnG P w K mg base CX0 1 T.f_l_higher T.d_l_higher ["_law_sizes_here", "_law_spot"] (spT K C_l_higher) := by
  exact ok_fn T.F_l_higher sc_l_higher rfl rfl (by decide) fun cdv A out s H E hgd hr => ⟨_, (pss_cons (ps_set (i := 2) sc_l_higher.nd rfl (.inl rfl) (pe_lst pa_nil))
  (pss_cons (ps_for PassesOwn.never rfl (pi_range1 (by rfl) T.m_range (pa_cons (pe_callB (lenK K rfl) (by rfl) T.m_len (by decide +kernel) (pa_cons (pv 0) pa_nil)) pa_nil)) (pg_name (i := 3) sc_l_higher.nd rfl (.inl rfl)) (pss_cons (ps_set (i := 4) sc_l_higher.nd rfl (.inl rfl) (pe_listRg rfl (by rfl) T.m_list (prg_2 (by rfl) T.m_range (pe_callB (cr_min2 rfl) (by rfl) T.m_min (by decide +kernel) (pa_cons (pv 1) (pa_cons (pv 3) pa_nil))) (pe_op (addK K rfl) (pe_callB (cr_max2 rfl) (by rfl) T.m_max (by decide +kernel) (pa_cons (pv 1) (pa_cons (pv 3) pa_nil))) pe_int))))
  (pss_one (ps_if (PW.pt (pw_and (pt_cmpR (neK K rfl hr.units) (pv 3) (pv 1) (nomark _)) (pw_and1 (pt_cmpR (eqK K rfl hr.units) (pe_ix (ixK K rfl) (pv 0) (pv 3) (fun _ _ => rfl)) (pe_callB (maxK K rfl rfl (units65 hr)) (by rfl) T.m_max (by decide +kernel) (pa_cons (pe_lc (own := [("_law_some", 5)]) (by rfl) sc_l_higher.nd (pi_seqK K rfl (pv 4)) (blkOk_by (own := [("_law_some", 5)]) (N := ["_law_sizes_here", "_law_spot", "_law_found", "_law_mate", "_law_inner", "_law_some"]) (sc := defScope s_l_higher) (by decide +kernel)) (fun _ _ _ _ _ => (pg_name (i := 5) sc_l_higher.nd rfl (by first | exact .inl rfl | exact .inr rfl))) (fun _ _ _ _ _ => pts_nil) (fun _ _ _ _ _ => (pe_ix (ixK K rfl) (pv 0) (pv 5) (fun _ _ => rfl)))) pa_nil)) (nomark _))))) (pss_one (ps_expr (pe_bm PySem.F.plainAttrs_list PySem.F.slot_list_append PySem.F.type_list_append mt_append (pv 2) (pa_cons (pv 3) pa_nil)))) pss_nil))))
  (pss_one (ps_ret (pv 2))))), (ss_seq (ss_asg (se_lst sb_nil) (sg_name (by decide)))
  (ss_seq (ss_for (si_r1 (sb_cons (se_cb sc_len (sb_cons se_var sb_nil)) sb_nil)) (sg_name (by decide)) (ss_end (ss_seq (ss_asg (se_lr2 (se_cb sc_min2 (sb_cons se_var (sb_cons se_var sb_nil))) (se_op so_add (se_cb sc_max2 (sb_cons se_var (sb_cons se_var sb_nil))) se_int)) (sg_name (by decide)))
  (ss_if (st_and (st_test (se_op so_ne se_var se_var)) (st_test (se_op so_eq (se_op so_ix se_var se_var) (se_cb sc_max (sb_cons (se_lc (by decide) (si_seq se_var) (sgw_name (by decide) (by decide)) st_yes (se_op so_ix se_var se_var)) sb_nil))))) (ss_drop (se_app (sb_cons se_var sb_nil))) ss_next))))
  (ss_ret se_mv)))⟩
theorem ok_l_wild : ∀ k : Nat, FnG P w K mg base CX0 (2 + k) T.f_l_wild T.d_l_wild ["_law_box_here", "_law_sizes_here", "_law_first", "_law_last"] (spT K (C_l_wild k))
  | 0 => ok_no
  | k + 1 => by
    have G_l_top := ok_l_top (P := P) (w := w) (base := base) T
    have G_l_take := ok_l_take (P := P) (w := w) (base := base) T 2
    have G_l_wild := ok_l_wild k
    exact ok_fn (k := 2 + k) T.F_l_wild sc_l_wild rfl rfl (by decide) fun cdv A out s H E hgd hr => ⟨_, (pss_cons (ps_par (i := 4) (j := 5) (by rfl) sc_l_wild.nd rfl rfl (by decide) rfl rfl (pa_cons (pe_callG G_l_top hgd (room hr (by omega)) (by rfl) T.g_l_top T.F_l_top.kp T.b_l_top .nil pass0 (pa_cons (pv 1) (pa_cons (pe_listRg rfl (by rfl) T.m_list (prg_2 (by rfl) T.m_range (pv 2) (pe_op (addK K rfl) (pv 3) pe_int))) pa_nil))) (pa_cons (pe_lst pa_nil) pa_nil)) (by rfl))
  (pss_cons (ps_for PassesOwn.never rfl (pi_seqK K rfl (pe_tupF (pa_cons (pe_tupF (pa_cons (pv 2) (pa_cons (pe_op op_sub (pv 4) pe_int) pa_nil))) (pa_cons (pe_tupF (pa_cons (pe_op (addK K rfl) (pv 4) pe_int) (pa_cons (pv 3) pa_nil))) pa_nil)))) (pg_tupK K rfl (n := 2) rfl (pgs_cons (pg_name (i := 6) sc_l_wild.nd rfl (.inl rfl)) (pgs_cons (pg_name (i := 7) sc_l_wild.nd rfl (.inl rfl)) pgs_nil))) (pss_one (ps_while PassesOwn.never (pt_cmpR op_le (pv 6) (pv 7) (nomark _)) (pss_cons (ps_set (i := 8) sc_l_wild.nd rfl (.inl rfl) (pe_op (addK K rfl) (pv 6) (pe_callG G_l_take hgd (room hr (by omega)) (by rfl) T.g_l_take T.F_l_take.kp T.b_l_take .nil pass0 (pa_cons (pv 0) (pa_cons (pe_op (addK K rfl) (pe_op op_sub (pv 7) (pv 6)) pe_int) pa_nil)))))
  (pss_cons (ps_set (i := 9) sc_l_wild.nd rfl (.inl rfl) (pe_callG G_l_wild hgd hr (by rfl) T.g_l_wild T.F_l_wild.kp T.b_l_wild .nil pass0 (pa_cons (pv 0) (pa_cons (pv 1) (pa_cons (pv 6) (pa_cons (pv 8) pa_nil))))))
  (pss_cons (ps_set (i := 5) sc_l_wild.nd rfl (.inl rfl) (pe_op (addK K rfl) (pe_op (addK K rfl) (pv 5) (pv 9)) (pe_lst (pa_cons (pe_tupF (pa_cons (pe_callG G_l_top hgd (room hr (by omega)) (by rfl) T.g_l_top T.F_l_top.kp T.b_l_top .nil pass0 (pa_cons (pv 1) (pa_cons (pe_listRg rfl (by rfl) T.m_list (prg_2 (by rfl) T.m_range (pv 6) (pe_op (addK K rfl) (pv 8) pe_int))) pa_nil))) (pa_cons (pv 4) pa_nil))) pa_nil))))
  (pss_one (ps_set (i := 6) sc_l_wild.nd rfl (.inl rfl) (pe_op (addK K rfl) (pv 8) pe_int)))))))))
  (pss_one (ps_ret (pv 5))))), (ss_seq (ss_par (by decide) (by decide) (sb_cons (se_call (sr_val se_var (sr_val (se_lr2 se_var (se_op so_add se_var se_int)) sr_nil))) (sb_cons (se_lst sb_nil) sb_nil)))
  (ss_seq (ss_for (si_seq (se_tup (sb_cons (se_tup (sb_cons se_var (sb_cons (se_op so_i se_var se_int) sb_nil))) (sb_cons (se_tup (sb_cons (se_op so_add se_var se_int) (sb_cons se_var sb_nil))) sb_nil)))) (sg_tup (sgs_cons (sg_name (by decide)) (sgs_cons (sg_name (by decide)) sgs_nil))) (ss_end (ss_while (st_test (se_op so_b se_var se_var)) (ss_end (ss_seq (ss_asg (se_op so_add se_var (se_call (sr_lend (sr_val (se_op so_add (se_op so_i se_var se_var) se_int) sr_nil)))) (sg_name (by decide)))
  (ss_seq (ss_asg (se_call (sr_lend (sr_val se_var (sr_val se_var (sr_val se_var sr_nil))))) (sg_name (by decide)))
  (ss_seq (ss_asg (se_op so_add (se_op so_add se_var se_var) (se_lst (sb_cons (se_tup (sb_cons (se_call (sr_val se_var (sr_val (se_lr2 se_var (se_op so_add se_var se_int)) sr_nil))) (sb_cons se_var sb_nil))) sb_nil))) (sg_name (by decide)))
  (ss_asg (se_op so_add se_var se_int) (sg_name (by decide))))))))))
  (ss_ret se_mv)))⟩
theorem ok_l_some_nest : FnG P w K mg base CX0 16 T.f_l_some_nest T.d_l_some_nest ["_law_box_here", "_law_sizes_here", "_law_way"] (spT K C_l_some_nest) := by
  have G_l_wild := ok_l_wild (P := P) (w := w) (base := base) T 13
  have G_l_take := ok_l_take (P := P) (w := w) (base := base) T 2
  exact ok_fn T.F_l_some_nest sc_l_some_nest rfl rfl (by decide) fun cdv A out s H E hgd hr => ⟨_, (pss_cons (ps_par (i := 3) (j := 4) (by rfl) sc_l_some_nest.nd rfl rfl (by decide) rfl rfl (pa_cons (pe_op op_mulX (pe_lst (pa_cons pe_non pa_nil)) (pe_callB (lenK K rfl) (by rfl) T.m_len (by decide +kernel) (pa_cons (pv 1) pa_nil))) (pa_cons pe_int pa_nil)) (by rfl))
  (pss_cons (ps_while PassesOwn.never (pt_cmpR op_lt (pv 4) (pe_callB (lenK K rfl) (by rfl) T.m_len (by decide +kernel) (pa_cons (pv 1) pa_nil)) (nomark _)) (pss_cons (ps_set (i := 5) sc_l_some_nest.nd rfl (.inl rfl) (pe_ifExp (pt_cmpR (eqK K rfl hr.units) (pv 2) pe_int (nomark _)) (pe_op op_sub (pe_callB (lenK K rfl) (by rfl) T.m_len (by decide +kernel) (pa_cons (pv 1) pa_nil)) pe_int) (pe_op (addK K rfl) (pv 4) (pe_callG G_l_take hgd (room hr) (by rfl) T.g_l_take T.F_l_take.kp T.b_l_take .nil pass0 (pa_cons (pv 0) (pa_cons (pe_op op_sub (pe_callB (lenK K rfl) (by rfl) T.m_len (by decide +kernel) (pa_cons (pv 1) pa_nil)) (pv 4)) pa_nil))))))
  (pss_cons (ps_for PassesOwn.never rfl (pi_seqK K rfl (pe_callG G_l_wild hgd (room hr) (by rfl) T.g_l_wild T.F_l_wild.kp T.b_l_wild .nil pass0 (pa_cons (pv 0) (pa_cons (pv 1) (pa_cons (pv 4) (pa_cons (pv 5) pa_nil)))))) (pg_tupK K rfl (n := 2) rfl (pgs_cons (pg_name (i := 6) sc_l_some_nest.nd rfl (.inl rfl)) (pgs_cons (pg_name (i := 7) sc_l_some_nest.nd rfl (.inl rfl)) pgs_nil))) (pss_one (ps_asg (pv 7) (pg_sub (pv 3) (pv 6) set_list))))
  (pss_one (ps_set (i := 4) sc_l_some_nest.nd rfl (.inl rfl) (pe_op (addK K rfl) (pv 5) pe_int))))))
  (pss_one (ps_ret (pe_callTy (tupleK K rfl) (by rfl) T.m_tuple (by decide +kernel) (pa_cons (pv 3) pa_nil)))))), (ss_seq (ss_par (by decide) (by decide) (sb_cons (se_op so_mul (se_lst (sb_cons se_non sb_nil)) (se_cb sc_len (sb_cons se_var sb_nil))) (sb_cons se_int sb_nil)))
  (ss_seq (ss_while (st_test (se_op so_b se_var (se_cb sc_len (sb_cons se_var sb_nil)))) (ss_end (ss_seq (ss_asg (se_if (st_test (se_op so_eq se_var se_int)) (se_op so_i (se_cb sc_len (sb_cons se_var sb_nil)) se_int) (se_op so_add se_var (se_call (sr_lend (sr_val (se_op so_i (se_cb sc_len (sb_cons se_var sb_nil)) se_var) sr_nil))))) (sg_name (by decide)))
  (ss_seq (ss_for (si_seq (se_call (sr_lend (sr_val se_var (sr_val se_var (sr_val se_var sr_nil)))))) (sg_tup (sgs_cons (sg_name (by decide)) (sgs_cons (sg_name (by decide)) sgs_nil))) (ss_end (ss_asg se_var (sg_set se_var))))
  (ss_asg (se_op so_add se_var se_int) (sg_name (by decide)))))))
  (ss_ret (se_cb sc_tuple (sb_cons se_var sb_nil)))))⟩
theorem ok_l_right : FnG P w K mg base CX0 17 T.f_l_right T.d_l_right ["_law_box_here"] (spT K C_l_right) := by
  have G_l_sizes := ok_l_sizes (P := P) (w := w) (base := base) T
  have G_l_shuffled := ok_l_shuffled (P := P) (w := w) (base := base) T
  have G_l_some_nest := ok_l_some_nest (P := P) (w := w) (base := base) T
  have G_l_higher := ok_l_higher (P := P) (w := w) (base := base) T
  have G_deep_history := ok_deep_history (P := P) (w := w) (base := base) T
  have G_l_climb := ok_l_climb (P := P) (w := w) (base := base) T
  have G_l_take := ok_l_take (P := P) (w := w) (base := base) T 2
  have G_fewest_moves := ok_fewest_moves (P := P) (w := w) (base := base) T
  have G_l_same := ok_l_same (P := P) (w := w) (base := base) T 6
  have G_l_nest := ok_l_nest (P := P) (w := w) (base := base) T
  have G_around := ok_around (P := P) (w := w) (base := base) T
  have G_nesting_after := ok_nesting_after (P := P) (w := w) (base := base) T
  have G_greatest_depth := ok_greatest_depth (P := P) (w := w) (base := base) T
  have G_holders := ok_holders (P := P) (w := w) (base := base) T
  exact ok_fn T.F_l_right sc_l_right rfl rfl (by decide) fun cdv A out s H E hgd hr => ⟨_, (pss_cons (ps_set (i := 1) sc_l_right.nd rfl (.inr rfl) (pe_callG G_l_sizes hgd (room hr) (by rfl) T.g_l_sizes T.F_l_sizes.kp T.b_l_sizes .nil pass0 (pa_cons (pv 0) (pa_cons pe_int pa_nil))))
  (pss_cons (ps_par (i := 2) (j := 3) (by rfl) sc_l_right.nd rfl rfl (by decide) rfl rfl (pa_cons (pe_callB (lenK K rfl) (by rfl) T.m_len (by decide +kernel) (pa_cons (pv 1) pa_nil)) (pa_cons (pe_callG G_l_some_nest hgd (room hr) (by rfl) T.g_l_some_nest T.F_l_some_nest.kp T.b_l_some_nest .nil pass0 (pa_cons (pv 0) (pa_cons (pv 1) (pa_cons pe_int pa_nil)))) pa_nil)) (by rfl))
  (pss_cons (ps_for PassesOwn.never rfl (pi_range1 (by rfl) T.m_range (pa_cons (pv 2) pa_nil)) (pg_name (i := 4) sc_l_right.nd rfl (.inl rfl)) (pss_cons (ps_set (i := 5) sc_l_right.nd rfl (.inl rfl) (pe_callG G_l_higher hgd (room hr) (by rfl) T.g_l_higher T.F_l_higher.kp T.b_l_higher .nil pass0 (pa_cons (pv 1) (pa_cons (pv 4) pa_nil))))
  (pss_cons (ps_if (pt_not (pt_val (pe_callG G_l_same hgd (room hr) (by rfl) T.g_l_same T.F_l_same.kp T.b_l_same .nil pass0 (pa_cons (pe_lst (pa_cons (pe_callG G_greatest_depth hgd (room hr) (by rfl) T.g_greatest_depth T.F_greatest_depth.kp T.b_greatest_depth .nil pass0 (pa_cons (pv 1) (pa_cons (pv 4) pa_nil))) (pa_cons (pe_callG G_holders hgd (room hr) (by rfl) T.g_holders T.F_holders.kp T.b_holders .nil pass0 (pa_cons (pv 1) (pa_cons (pv 4) pa_nil))) pa_nil))) (pa_cons (pe_lst (pa_cons (pe_callB (lenK K rfl) (by rfl) T.m_len (by decide +kernel) (pa_cons (pv 5) pa_nil)) (pa_cons (pv 5) pa_nil))) pa_nil))))) (pss_one (ps_ret pe_bl)) pss_nil)
  (pss_cons (ps_set (i := 6) sc_l_right.nd rfl (.inl rfl) (pe_callG G_deep_history hgd (room hr) (by rfl) T.g_deep_history T.F_deep_history.kp T.b_deep_history .nil pass0 (pa_cons (pv 1) (pa_cons (pv 4) pa_nil))))
  (pss_cons (ps_if (pt_cmpR (neK K rfl hr.units) (pe_callB (sortedAK K rfl) (by rfl) T.m_sorted (by decide +kernel) (pa_cons (pv 6) pa_nil)) (pe_listRg rfl (by rfl) T.m_list (prg_1 (by rfl) T.m_range (pe_op op_sub (pv 2) pe_int))) (nomark _)) (pss_one (ps_ret pe_bl)) pss_nil)
  (pss_cons (ps_set (i := 7) sc_l_right.nd rfl (.inl rfl) (pe_callG G_l_climb hgd (room hr) (by rfl) T.g_l_climb T.F_l_climb.kp T.b_l_climb .nil pass0 (pa_cons (pe_callG G_l_nest hgd (room hr) (by rfl) T.g_l_nest T.F_l_nest.kp T.b_l_nest .nil pass0 (pa_cons (pv 1) (pa_cons (pv 6) pa_nil))) (pa_cons (pv 4) pa_nil))))
  (pss_cons (ps_setLc (i := 8) (own := [("_law_k", 12)]) (by rfl) sc_l_right.nd rfl rfl (sw_true rfl rfl rfl (by decide +kernel)) (pi_seqK K rfl (pv 7)) (blkOk_by (own := [("_law_k", 12)]) (N := ["_law_box_here", "_law_sizes_here", "_law_count", "_law_nest_here", "_law_at", "_law_above", "_law_tour", "_law_found", "_law_rising", "_law_first", "_law_last", "_law_low", "_law_k"]) (sc := defScope s_l_right) (by decide +kernel)) (fun _ _ _ _ _ => (pg_name (i := 12) sc_l_right.nd rfl (by first | exact .inl rfl | exact .inr rfl))) (fun _ _ _ _ _ => pts_nil) (fun _ _ _ _ _ => (pe_ix (ixK K rfl) (pv 1) (pv 12) (fun _ _ => rfl))))
  (pss_cons (ps_if (PW.pt (pw_or (pt_cmpR (neK K rfl hr.units) (pe_callB (sortedAK K rfl) (by rfl) T.m_sorted (by decide +kernel) (pa_cons (pv 7) pa_nil)) (pv 5) (nomark _)) (pw_or1 (pt_cmpR (neK K rfl hr.units) (pv 8) (pe_callB (sortedAK K rfl) (by rfl) T.m_sorted (by decide +kernel) (pa_cons (pv 8) pa_nil)) (nomark _))))) (pss_one (ps_ret pe_bl)) pss_nil)
  (pss_one (ps_if (pt_cmpR op_gt (pe_callB (lenK K rfl) (by rfl) T.m_len (by decide +kernel) (pa_cons (pe_callG G_around hgd (room hr) (by rfl) T.g_around T.F_around.kp T.b_around .nil pass0 (pa_cons (pv 1) (pa_cons (pv 3) (pa_cons (pv 4) pa_nil)))) pa_nil)) (pe_callB (lenK K rfl) (by rfl) T.m_len (by decide +kernel) (pa_cons (pv 5) pa_nil)) (nomark _)) (pss_one (ps_ret pe_bl)) pss_nil))))))))))
  (pss_cons (ps_par (i := 9) (j := 10) (by rfl) sc_l_right.nd rfl rfl (by decide) rfl rfl (pa_cons (pe_callG G_l_take hgd (room hr) (by rfl) T.g_l_take T.F_l_take.kp T.b_l_take .nil pass0 (pa_cons (pv 0) (pa_cons (pv 2) pa_nil))) (pa_cons (pe_callG G_l_take hgd (room hr) (by rfl) T.g_l_take T.F_l_take.kp T.b_l_take .nil pass0 (pa_cons (pv 0) (pa_cons (pv 2) pa_nil))) pa_nil)) (by rfl))
  (pss_cons (ps_if (pt_cmpR (niK K rfl (units65 hr)) (pv 10) (pe_callG G_l_higher hgd (room hr) (by rfl) T.g_l_higher T.F_l_higher.kp T.b_l_higher .nil pass0 (pa_cons (pv 1) (pa_cons (pv 9) pa_nil))) rfl) (pss_one (ps_ret (pe_cmpR op_isNX (pe_callG G_fewest_moves hgd (room hr) (by rfl) T.g_fewest_moves T.F_fewest_moves.kp T.b_fewest_moves .nil pass0 (pa_cons (pv 1) (pa_cons (pv 9) (pa_cons (pv 10) pa_nil)))) pe_non (nomark _)))) pss_nil)
  (pss_cons (ps_set (i := 11) sc_l_right.nd rfl (.inl rfl) (pe_callB (cr_min2 rfl) (by rfl) T.m_min (by decide +kernel) (pa_cons (pv 9) (pa_cons (pv 10) pa_nil))))
  (pss_cons (ps_set (i := 6) sc_l_right.nd rfl (.inl rfl) (pe_callG G_l_shuffled hgd (room hr) (by rfl) T.g_l_shuffled T.F_l_shuffled.kp T.b_l_shuffled .nil pass0 (pa_cons (pv 0) (pa_cons (pe_listRg rfl (by rfl) T.m_list (prg_2 (by rfl) T.m_range (pv 11) (pe_callB (cr_max2 rfl) (by rfl) T.m_max (by decide +kernel) (pa_cons (pv 9) (pa_cons (pv 10) pa_nil))))) pa_nil))))
  (pss_cons (ps_if (pt_cmpR (neK K rfl hr.units) (pe_callG G_fewest_moves hgd (room hr) (by rfl) T.g_fewest_moves T.F_fewest_moves.kp T.b_fewest_moves .nil pass0 (pa_cons (pv 1) (pa_cons (pv 9) (pa_cons (pv 10) pa_nil)))) (pe_callB (lenK K rfl) (by rfl) T.m_len (by decide +kernel) (pa_cons (pv 6) pa_nil)) (nomark _)) (pss_one (ps_ret pe_bl)) pss_nil)
  (pss_one (ps_ret (pe_and (pe_cmpR (inK K rfl (units65 hr)) (pv 10) (pe_callG G_around hgd (room hr) (by rfl) T.g_around T.F_around.kp T.b_around .nil pass0 (pa_cons (pv 1) (pa_cons (pe_callG G_nesting_after hgd (room hr) (by rfl) T.g_nesting_after T.F_nesting_after.kp T.b_nesting_after .nil pass0 (pa_cons (pv 1) (pa_cons (pv 6) pa_nil))) (pa_cons (pv 9) pa_nil)))) rfl) (pe_one (pe_cmpR (neK K rfl hr.units) (pv 6) (pe_lst pa_nil) (nomark _)))))))))))))), (ss_seq (ss_asg (se_call (sr_lend (sr_val se_int sr_nil))) (sg_name (by decide)))
  (ss_seq (ss_par (by decide) (by decide) (sb_cons (se_cb sc_len (sb_cons se_var sb_nil)) (sb_cons (se_call (sr_lend (sr_val se_var (sr_val se_int sr_nil)))) sb_nil)))
  (ss_seq (ss_for (si_r1 (sb_cons se_var sb_nil)) (sg_name (by decide)) (ss_end (ss_seq (ss_asg (se_call (sr_val se_var (sr_val se_var sr_nil))) (sg_name (by decide)))
  (ss_seq (ss_if (st_not (st_B (se_call (sr_val (se_lst (sb_cons (se_call (sr_val se_var (sr_val se_var sr_nil))) (sb_cons (se_call (sr_val se_var (sr_val se_var sr_nil))) sb_nil))) (sr_val (se_lst (sb_cons (se_cb sc_len (sb_cons se_var sb_nil)) (sb_cons se_var sb_nil))) sr_nil))))) (ss_ret se_bl) ss_next)
  (ss_seq (ss_asg (se_call (sr_val se_var (sr_val se_var sr_nil))) (sg_name (by decide)))
  (ss_seq (ss_if (st_test (se_op so_ne (se_cb sc_sorted (sb_cons se_var sb_nil)) (se_lr1 (se_op so_i se_var se_int)))) (ss_ret se_bl) ss_next)
  (ss_seq (ss_asg (se_call (sr_val (se_call (sr_val se_var (sr_val se_var sr_nil))) (sr_val se_var sr_nil))) (sg_name (by decide)))
  (ss_seq (ss_asg (se_lc (by decide) (si_seq se_var) (sgw_name (by decide) (by decide)) st_yes (se_op so_ix se_var se_var)) (sg_name (by decide)))
  (ss_seq (ss_if (st_or (st_test (se_op so_ne (se_cb sc_sorted (sb_cons se_var sb_nil)) se_var)) (st_test (se_op so_ne se_var (se_cb sc_sorted (sb_cons se_var sb_nil))))) (ss_ret se_bl) ss_next)
  (ss_if (st_test (se_op so_b (se_cb sc_len (sb_cons (se_call (sr_val se_var (sr_val se_var (sr_val se_var sr_nil)))) sb_nil)) (se_cb sc_len (sb_cons se_var sb_nil)))) (ss_ret se_bl) ss_next))))))))))
  (ss_seq (ss_par (by decide) (by decide) (sb_cons (se_call (sr_lend (sr_val se_var sr_nil))) (sb_cons (se_call (sr_lend (sr_val se_var sr_nil))) sb_nil)))
  (ss_seq (ss_if (st_test (se_op so_ni se_var (se_call (sr_val se_var (sr_val se_var sr_nil))))) (ss_ret (se_op so_isN (se_call (sr_val se_var (sr_val se_var (sr_val se_var sr_nil)))) se_non)) ss_next)
  (ss_seq (ss_asg (se_cb sc_min2 (sb_cons se_var (sb_cons se_var sb_nil))) (sg_name (by decide)))
  (ss_seq (ss_asg (se_call (sr_lend (sr_val (se_lr2 se_var (se_cb sc_max2 (sb_cons se_var (sb_cons se_var sb_nil)))) sr_nil))) (sg_name (by decide)))
  (ss_seq (ss_if (st_test (se_op so_ne (se_call (sr_val se_var (sr_val se_var (sr_val se_var sr_nil)))) (se_cb sc_len (sb_cons se_var sb_nil)))) (ss_ret se_bl) ss_next)
  (ss_ret (se_and (se_op so_in se_var (se_call (sr_val se_var (sr_val (se_call (sr_val se_var (sr_val se_var sr_nil))) (sr_val se_var sr_nil))))) (se_op so_ne se_var (se_lst sb_nil))))))))))))⟩
theorem ok_law : FnG P w K mg base CX0 18 T.f_law T.d_law ["_law_script"] (spT K C_law) := by
  have G_l_box := ok_l_box (P := P) (w := w) (base := base) T
  have G_l_right := ok_l_right (P := P) (w := w) (base := base) T
  exact ok_fn T.F_law sc_law rfl rfl (by decide) fun cdv A out s H E hgd hr => ⟨_, (pss_cons (ps_for PassesOwn.never rfl (pi_range1 (by rfl) T.m_range (pa_cons (pe_op (addK K rfl) pe_int (pe_callB (cr_min2 rfl) (by rfl) T.m_min (by decide +kernel) (pa_cons pe_int (pa_cons (pe_callB (lenK K rfl) (by rfl) T.m_len (by decide +kernel) (pa_cons (pv 0) pa_nil)) pa_nil)))) pa_nil)) (pg_name (i := 1) sc_law.nd rfl (.inl rfl)) (pss_cons (ps_set (i := 2) sc_law.nd rfl (.inr rfl) (pe_callG G_l_box hgd (room hr) (by rfl) T.g_l_box T.F_l_box.kp T.b_l_box .nil pass0 (pa_cons (pv 0) (pa_cons (pv 1) pa_nil))))
  (pss_one (ps_if (pt_not (pt_val (pe_callB (allK K rfl rfl) (by rfl) T.m_all (by decide +kernel) (pa_cons (pe_lc (own := [("_law_turn", 3)]) (by rfl) sc_law.nd (pi_range1 (by rfl) T.m_range (pa_cons pe_int pa_nil)) (blkOk_by (own := [("_law_turn", 3)]) (N := ["_law_script", "_law_k", "_law_box_here", "_law_turn"]) (sc := defScope s_law) (by decide +kernel)) (fun _ _ _ _ _ => (pg_name (i := 3) sc_law.nd rfl (by first | exact .inl rfl | exact .inr rfl))) (fun _ _ _ _ _ => pts_nil) (fun _ _ _ _ _ => (pe_callG G_l_right hgd (room hr) (by rfl) T.g_l_right T.F_l_right.kp T.b_l_right .nil pass0 (pa_cons (pv 2) pa_nil)))) pa_nil)))) (pss_one (ps_ret pe_bl)) pss_nil))))
  (pss_one (ps_ret pe_bl))), (ss_seq (ss_for (si_r1 (sb_cons (se_op so_add se_int (se_cb sc_min2 (sb_cons se_int (sb_cons (se_cb sc_len (sb_cons se_var sb_nil)) sb_nil)))) sb_nil)) (sg_name (by decide)) (ss_end (ss_seq (ss_asg (se_call (sr_val se_var (sr_val se_var sr_nil))) (sg_name (by decide)))
  (ss_if (st_not (st_B (se_cb sc_all (sb_cons (se_lc (by decide) (si_r1 (sb_cons se_int sb_nil)) (sgw_name (by decide) (by decide)) st_yes (se_call (sr_lend sr_nil))) sb_nil)))) (ss_ret se_bl) ss_next))))
  (ss_ret se_bl))⟩
end
end K70
end

section
namespace K70
open PySem PySem.Spec PyProof.Rows L2 TX
structure RowV (row : D) (n : Nat) (v : Nat → Int) : Prop where
  el : lenD row = some (.sh (.int (n : Int)))
  ix : ∀ (i : Int) (x : Nat), i = (x : Int) → x < n → ixD row (.int i) = some (.sh (.int (v x)))
  inj : ∀ x y, x < n → y < n → v x = v y → x = y
@[simp] theorem cp_n : C_check_place.n = 2 := rfl
@[simp] theorem cp_fx : C_check_place.fx = [] := rfl
@[simp] theorem rising_n : C_rising.n = 3 := rfl
@[simp] theorem rising_fx : C_rising.fx = [] := rfl
@[simp] theorem holders_n : C_holders.n = 2 := rfl
@[simp] theorem holders_fx : C_holders.fx = [] := rfl
@[simp] theorem higher_n : C_l_higher.n = 2 := rfl
@[simp] theorem higher_fx : C_l_higher.fx = [] := rfl
@[simp] theorem gd_n : C_greatest_depth.n = 2 := rfl
@[simp] theorem gd_fx : C_greatest_depth.fx = [] := rfl
@[simp] theorem dh_n : C_deep_history.n = 2 := rfl
@[simp] theorem dh_fx : C_deep_history.fx = [] := rfl
@[simp] theorem fm_n : C_fewest_moves.n = 3 := rfl
@[simp] theorem fm_fx : C_fewest_moves.fx = [] := rfl
@[simp] theorem moves_n : C_moves.n = 2 := rfl
@[simp] theorem moves_fx : C_moves.fx = [] := rfl
@[simp] theorem na_n : C_nesting_after.n = 2 := rfl
@[simp] theorem na_fx : C_nesting_after.fx = [] := rfl
@[simp] theorem around_n : C_around.n = 3 := rfl
@[simp] theorem around_fx : C_around.fx = [] := rfl
@[simp] theorem runs_n : C_l_runs.n = 2 := rfl
@[simp] theorem runs_fx : C_l_runs.fx = [] := rfl
@[simp] theorem top_n : C_l_top.n = 2 := rfl
@[simp] theorem top_fx : C_l_top.fx = [] := rfl
@[simp] theorem moved_n : C_l_moved.n = 3 := rfl
@[simp] theorem moved_fx : C_l_moved.fx = [] := rfl
@[simp] theorem nest_n : C_l_nest.n = 2 := rfl
@[simp] theorem nest_fx : C_l_nest.fx = [] := rfl
@[simp] theorem climb_n : C_l_climb.n = 2 := rfl
@[simp] theorem climb_fx : C_l_climb.fx = [] := rfl
@[simp] theorem snest_n : C_l_some_nest.n = 3 := rfl
@[simp] theorem snest_fx : C_l_some_nest.fx = [0] := rfl
@[simp] theorem right_n : C_l_right.n = 1 := rfl
@[simp] theorem right_fx : C_l_right.fx = [0] := rfl
@[simp] theorem wild_n {k : Nat} : (C_l_wild k).n = 4 := by cases k <;> rfl
@[simp] theorem wild_fx {k : Nat} : (C_l_wild k).fx = [0] := by cases k <;> rfl
theorem check_place {row : D} {p L : Int} (el : lenD row = some (.sh (.int L))) (h0 : 0 ≤ p) (h1 : p < L) : C_check_place.run [.sh row, .sh (.int p)] = .ok (.sh .non) [] := by
  refine run_nx (s2 := [some (.sh row), some (.sh (.int p))]) (s3 := [some (.sh row), some (.sh (.int p))]) ?_ rfl
  simp [fb_check_place, el, h0, h1]
section
variable {row : D} {n : Nat} {v : Nat → Int} (R : RowV row n v)
include R
/-! ### rising -/
def recs (v : Nat → Int) : Int → List Nat → List Nat
  | _, [] => []
  | m, o :: os => if m < v o then o :: recs v (v o) os else recs v m os
omit R in
theorem recs_mem {v : Nat → Int} {q : Nat} : ∀ (os : List Nat) (m : Int), os.Nodup → (q ∈ recs v m os ↔ m < v q ∧ ∃ i : Nat, os[i]? = some q ∧ ∀ (j y : Nat), j < i → os[j]? = some y → v y < v q)
  | [], m, _ => by simp [recs]
  | o :: os, m, hd => by
    have hd2 := List.nodup_cons.mp hd
    unfold recs
    by_cases z : m < v o
    · rw [if_pos z, List.mem_cons, recs_mem os (v o) hd2.2]
      constructor
      · rintro (rfl | ⟨h1, i, h2, h3⟩)
        · exact ⟨z, 0, rfl, fun j y h => by omega⟩
        · refine ⟨by omega, i + 1, h2, fun j y h e => ?_⟩
          cases j with
          | zero => cases e; exact h1
          | succ j => exact h3 j y (by omega) e
      · rintro ⟨h1, i, h2, h3⟩
        cases i with
        | zero => cases h2; exact .inl rfl
        | succ i => exact .inr ⟨h3 0 o (by omega) rfl, i, h2, fun j y h e => h3 (j + 1) y (by omega) e⟩
    · rw [if_neg z, recs_mem os m hd2.2]
      constructor
      · rintro ⟨h1, i, h2, h3⟩
        refine ⟨h1, i + 1, h2, fun j y h e => ?_⟩
        cases j with
        | zero => cases e; omega
        | succ j => exact h3 j y (by omega) e
      · rintro ⟨h1, i, h2, h3⟩
        cases i with
        | zero =>
          cases h2
          omega
        | succ i => exact ⟨h1, i, h2, fun j y h e => h3 (j + 1) y (by omega) e⟩
def cI (os : List Nat) : List D := os.map fun x : Nat => D.int (x : Int)
omit R in
theorem ris_yes {row a : D} {p o m x : Int} {found : List D} (e : ixD row (.int o) = some (.sh (.int x))) (h : m < x) (hl : found.length < 100000) : (gN 5 (.sh (.int o)) [some (.sh row), some (.sh (.int p)), some (.sh a), some (.lst (found.map O.sh)), some (.sh (.int m)), none]).bind (fun _ s => (sEnd [5] (sIf (eB (eOp oGt (eOp oIx (eVar 0) (eVar 5)) (eVar 4))) (sSeq (sAsg (eOp oIx (eVar 0) (eVar 5)) (gN 4))
  (sDrop (eM 3 mApp (aC (eVar 5) aN)))) sNx)) s) = .ok .nx [some (.sh row), some (.sh (.int p)), some (.sh a), some (.lst ((found ++ [D.int o]).map O.sh)), some (.sh (.int x)), none] := by
  simp [e, h, hl, -ixD_r]
omit R in
theorem ris_no {row a : D} {p o m x : Int} {found : List D} (e : ixD row (.int o) = some (.sh (.int x))) (h : ¬ m < x) : (gN 5 (.sh (.int o)) [some (.sh row), some (.sh (.int p)), some (.sh a), some (.lst (found.map O.sh)), some (.sh (.int m)), none]).bind (fun _ s => (sEnd [5] (sIf (eB (eOp oGt (eOp oIx (eVar 0) (eVar 5)) (eVar 4))) (sSeq (sAsg (eOp oIx (eVar 0) (eVar 5)) (gN 4))
  (sDrop (eM 3 mApp (aC (eVar 5) aN)))) sNx)) s) = .ok .nx [some (.sh row), some (.sh (.int p)), some (.sh a), some (.lst (found.map O.sh)), some (.sh (.int m)), none] := by
  simp [e, h, -ixD_r]
theorem ris_loop {a : D} {p : Int} : ∀ (os found : List Nat) (m : Int), (∀ o ∈ os, o < n) → found.length + os.length ≤ 1000 → ∃ m2 : Int, forL (gN 5) (sEnd [5] (sIf (eB (eOp oGt (eOp oIx (eVar 0) (eVar 5)) (eVar 4))) (sSeq (sAsg (eOp oIx (eVar 0) (eVar 5)) (gN 4))
  (sDrop (eM 3 mApp (aC (eVar 5) aN)))) sNx)) (cI os) [some (.sh row), some (.sh (.int p)), some (.sh a), some (.lst ((cI found).map O.sh)), some (.sh (.int m)), none] = .ok .nx [some (.sh row), some (.sh (.int p)), some (.sh a), some (.lst ((cI (found ++ recs v m os)).map O.sh)), some (.sh (.int m2)), none]
  | [], found, m, _, _ => ⟨m, by simp [cI, recs]⟩
  | o :: os, found, m, h, hl => by
    have e := R.ix (o : Int) o rfl (h o List.mem_cons_self)
    rw [List.length_cons] at hl
    by_cases z : m < v o
    · obtain ⟨m2, ih⟩ := ris_loop (a := a) (p := p) os (found ++ [o]) (v o) (fun o ho => h o (List.mem_cons_of_mem _ ho)) (by rw [List.length_append]; simp; omega)
      refine ⟨m2, (forL_step (s1 := [some (.sh row), some (.sh (.int p)), some (.sh a), some (.lst ((cI found).map O.sh)), some (.sh (.int m)), some (.sh (.int (o : Int)))]) (s2 := [some (.sh row), some (.sh (.int p)), some (.sh a), some (.lst ((cI (found ++ [o])).map O.sh)), some (.sh (.int (v o))), none]) rfl ?_).trans (ih.trans ?_)⟩
      · have := ris_yes (a := a) (p := p) (found := cI found) e z (by unfold cI; rw [List.length_map]; omega)
        have hc : cI found ++ [D.int (o : Int)] = cI (found ++ [o]) := by unfold cI; rw [List.map_append]; rfl
        rw [hc] at this
        exact this
      · rw [List.append_assoc, recs, if_pos z]
        rfl
    · obtain ⟨m2, ih⟩ := ris_loop (a := a) (p := p) os found m (fun o ho => h o (List.mem_cons_of_mem _ ho)) (by omega)
      refine ⟨m2, (forL_step (s1 := [some (.sh row), some (.sh (.int p)), some (.sh a), some (.lst ((cI found).map O.sh)), some (.sh (.int m)), some (.sh (.int (o : Int)))]) (s2 := [some (.sh row), some (.sh (.int p)), some (.sh a), some (.lst ((cI found).map O.sh)), some (.sh (.int m)), none]) rfl ?_).trans (ih.trans ?_)⟩
      · exact ris_no (a := a) (p := p) (found := cI found) e z
      · rw [recs, if_neg z]
omit R in
theorem ris0 {row : D} {p m m2 : Int} {ds : List D} {rs : List O} (e : ixD row (.int p) = some (.sh (.int m))) (lp : forL (gN 5) (sEnd [5] (sIf (eB (eOp oGt (eOp oIx (eVar 0) (eVar 5)) (eVar 4))) (sSeq (sAsg (eOp oIx (eVar 0) (eVar 5)) (gN 4))
  (sDrop (eM 3 mApp (aC (eVar 5) aN)))) sNx)) ds [some (.sh row), some (.sh (.int p)), some (.sh (.lst ds)), some (.lst []), some (.sh (.int m)), none] = .ok .nx [some (.sh row), some (.sh (.int p)), some (.sh (.lst ds)), some (.lst rs), some (.sh (.int m2)), none]) : C_rising.run [.sh row, .sh (.int p), .sh (.lst ds)] = .ok (.lst rs) [] := by
  refine run_rt (s2 := [some (.sh row), some (.sh (.int p)), some (.sh (.lst ds)), none, some (.sh (.int m2)), none]) (s3 := [some (.sh row), some (.sh (.int p)), some (.sh (.lst ds)), none, some (.sh (.int m2)), none]) ?_ rfl
  unfold fb_rising
  generalize sEnd [5] _ = body at lp ⊢
  simp [e, lp, -ixD_r]
theorem rising {p : Nat} (os : List Nat) (hp : p < n) (h : ∀ o ∈ os, o < n) (hl : os.length ≤ 1000) : C_rising.run [.sh row, .sh (.int p), .sh (.lst (cI os))] = .ok (.lst ((cI (recs v (v p) os)).map O.sh)) [] := by
  obtain ⟨m2, e⟩ := ris_loop R (a := .lst (cI os)) (p := p) os [] (v p) h (by simpa using hl)
  exact ris0 (R.ix p p rfl hp) e
/-- q stands above p: bigger than all from q to p -/
def Up (v : Nat → Int) (p q : Nat) : Prop := (p < q ∧ ∀ x, p ≤ x → x < q → v x < v q) ∨ (q < p ∧ ∀ x, q < x → x ≤ p → v x < v q)
omit R in
theorem hold0 {row : D} {p L : Int} {ls rs : List Int} {l1 r1 : List D} (el : lenD row = some (.sh (.int L))) (h0 : 0 ≤ p) (h1 : p < L) (hL : L ≤ 12) (d1 : (dnI (p - 1) (-1)).map D.int = l1) (d2 : rngD (p + 1) (L - (p + 1)).toNat = r1)
    (e1 : C_rising.run [.sh row, .sh (.int p), .sh (.lst l1)] = .ok (.lst ((ls.map D.int).map O.sh)) []) (e2 : C_rising.run [.sh row, .sh (.int p), .sh (.lst r1)] = .ok (.lst ((rs.map D.int).map O.sh)) []) (hl : ls.length + rs.length ≤ 1000) :
    C_holders.run [.sh row, .sh (.int p)] = .ok (.lst (((sortI (ls ++ rs)).map D.int).map O.sh)) [] := by
  refine run_rt (s2 := [some (.sh row), some (.sh (.int p)), some (.sh (.lst (ls.map D.int))), some (.sh (.lst (rs.map D.int)))]) (s3 := [some (.sh row), some (.sh (.int p)), some (.sh (.lst (ls.map D.int))), some (.sh (.lst (rs.map D.int)))]) ?_ rfl
  have s1 : small5 (p - 1) = true := small5_of (by omega) (by omega)
  have s2 : small5 (-1) = true := by decide
  have s3 : small5 (p + 1) = true := small5_of (by omega) (by omega)
  have s4 : small5 L = true := small5_of (by omega) (by omega)
  have k1 : ls.length + rs.length ≤ 100000 := by omega
  have k2 : sortedD (.lst (ls.map D.int ++ rs.map D.int)) = some (.lst (((sortI (ls ++ rs)).map D.int).map O.sh)) := by
    unfold sortedD
    rw [← List.map_append]
    dsimp only [seq2_lst]
    rw [intsOf_map]
  have k3 : toDs (List.map O.sh l1) = l1 := toDs_map _
  have k4 : toDs (List.map O.sh r1) = r1 := toDs_map _
  simp [fb_holders, check_place el h0 h1, eLdn, uNeg, Rs.bind, s1, s2, s3, s4, el, d1, d2, e1, e2, k1, k2, k3, k4, -List.map_map]
theorem holders {p : Nat} (hp : p < n) (hn : n ≤ 12) : ∃ ns : List Int, C_holders.run [.sh row, .sh (.int p)] = .ok (.lst ((ns.map D.int).map O.sh)) [] ∧ ∀ q : Nat, q < n → ((q : Int) ∈ ns ↔ Up v p q) := by
  have a1 := rising R (p := p) ((List.range p).map fun i => p - 1 - i) hp (fun o ho => by
    obtain ⟨i, hi, rfl⟩ := List.mem_map.mp ho
    have := List.mem_range.mp hi
    omega) (by simp; omega)
  have a2 := rising R (p := p) ((List.range (n - 1 - p)).map fun i => p + 1 + i) hp (fun o ho => by
    obtain ⟨i, hi, rfl⟩ := List.mem_map.mp ho
    have := List.mem_range.mp hi
    omega) (by simp; omega)
  have c : ∀ os : List Nat, cI os = (os.map fun x : Nat => (x : Int)).map D.int := fun os => by unfold cI; rw [List.map_map]; rfl
  rw [c (recs _ _ _)] at a1 a2
  have len : ∀ (os : List Nat) (m : Int), (recs v m os).length ≤ os.length := by
    intro os
    induction os with
    | nil => intro m; exact Nat.le_refl _
    | cons o os ih =>
      intro m
      unfold recs
      split
      · have := ih (v o); simp; omega
      · have := ih m; simp; omega
  refine ⟨_, hold0 (L := (n : Int)) R.el (by omega) (by omega) (by omega) ?_ ?_ a1 a2 ?_, fun q hq => ?_⟩
  · unfold dnI
    rw [c, List.map_map, List.map_map, List.map_map, show ((p : Int) - 1 - -1).toNat = p by omega]
    refine List.map_congr_left fun i hi => ?_
    have := List.mem_range.mp hi
    show D.int ((p : Int) - 1 - (i : Int)) = D.int ((p - 1 - i : Nat) : Int)
    exact congrArg D.int (by omega)
  · unfold rngD
    rw [c, List.map_map, List.map_map, show ((n : Int) - ((p : Int) + 1)).toNat = n - 1 - p by omega]
    refine List.map_congr_left fun i hi => ?_
    show D.int ((p : Int) + 1 + (i : Int)) = D.int ((p + 1 + i : Nat) : Int)
    exact congrArg D.int (by omega)
  · have l1 := len ((List.range p).map fun i => p - 1 - i) (v p)
    have l2 := len ((List.range (n - 1 - p)).map fun i => p + 1 + i) (v p)
    simp only [List.length_map, List.length_range] at l1 l2 ⊢
    omega
  · rw [(sortI_perm _).mem_iff, List.mem_append]
    have cast : ∀ os : List Nat, ((q : Int) ∈ os.map fun x : Nat => (x : Int)) ↔ q ∈ os := fun os => by
      rw [List.mem_map]
      constructor
      · rintro ⟨x, h1, h2⟩
        rwa [show q = x by omega]
      · intro h
        exact ⟨q, h, rfl⟩
    rw [cast, cast]
    have nd1 : ((List.range p).map fun i => p - 1 - i).Nodup := by
      rw [List.Nodup, List.pairwise_map]
      refine List.Pairwise.imp_of_mem ?_ List.nodup_range
      intro a b ha hb hab
      have := List.mem_range.mp ha
      have := List.mem_range.mp hb
      omega
    have nd2 : ((List.range (n - 1 - p)).map fun i => p + 1 + i).Nodup := by
      rw [List.Nodup, List.pairwise_map]
      refine List.Pairwise.imp_of_mem ?_ List.nodup_range
      intro a b ha hb hab
      omega
    rw [recs_mem _ _ nd1, recs_mem _ _ nd2]
    have g1 : ∀ i y, ((List.range p).map fun i => p - 1 - i)[i]? = some y ↔ i < p ∧ y = p - 1 - i := fun i y => by
      rw [List.getElem?_map]
      by_cases z : i < p
      · rw [List.getElem?_range z]
        simp [z, eq_comm]
      · rw [List.getElem?_eq_none (by rw [List.length_range]; omega)]
        simp [z]
    have g2 : ∀ i y, ((List.range (n - 1 - p)).map fun i => p + 1 + i)[i]? = some y ↔ i < n - 1 - p ∧ y = p + 1 + i := fun i y => by
      rw [List.getElem?_map]
      by_cases z : i < n - 1 - p
      · rw [List.getElem?_range z]
        simp [z, eq_comm]
      · rw [List.getElem?_eq_none (by rw [List.length_range]; omega)]
        simp [z]
    simp only [g1, g2]
    constructor
    · rintro (⟨h1, i, ⟨h2, h3⟩, h4⟩ | ⟨h1, i, ⟨h2, h3⟩, h4⟩)
      · refine .inr ⟨by omega, fun x x1 x2 => ?_⟩
        by_cases z : x = p
        · rw [z]; exact h1
        · exact h4 (p - 1 - x) x (by omega) ⟨by omega, by omega⟩
      · refine .inl ⟨by omega, fun x x1 x2 => ?_⟩
        by_cases z : x = p
        · rw [z]; exact h1
        · exact h4 (x - p - 1) x (by omega) ⟨by omega, by omega⟩
    · rintro (⟨h1, h2⟩ | ⟨h1, h2⟩)
      · exact .inr ⟨h2 p (by omega) h1, q - p - 1, ⟨by omega, by omega⟩, fun j y hj e => h2 y (by omega) (by omega)⟩
      · exact .inl ⟨h2 p h1 (by omega), p - 1 - q, ⟨by omega, by omega⟩, fun j y hj e => h2 y (by omega) (by omega)⟩
end

/-! ### the law's higher -/
def hB : FS := (sEnd [3, 4] (sSeq (sAsg (eLr2 (eCB cMin2 (aC (eVar 1) (aC (eVar 3) aN))) (eOp oAdd (eCB cMax2 (aC (eVar 1) (aC (eVar 3) aN))) (eK (.int 1)))) (gN 4))
  (sIf (tA (eB (eOp oNe (eVar 3) (eVar 1))) (eB (eOp oEq (eOp oIx (eVar 0) (eVar 3)) (eCB (c1 maxD) (aC (eLc [5] (iS (eVar 4)) (gN 5) tY (eOp oIx (eVar 0) (eVar 5))) aN))))) (sDrop (eM 2 mApp (aC (eVar 3) aN))) sNx)))
theorem h_self {row : D} {p : Int} {f : O} (h0 : 0 ≤ p) (h1 : p ≤ 12) : (gN 3 (.sh (.int p)) [some (.sh row), some (.sh (.int p)), some f, none, none, none]).bind (fun _ s => hB s) = .ok .nx [some (.sh row), some (.sh (.int p)), some f, none, none, none] := by
  have s1 : small5 p = true := small5_of (by omega) (by omega)
  have s2 : small5 (p + 1) = true := small5_of (by omega) (by omega)
  unfold hB
  simp [s1, s2, -List.map_map]
theorem h_other {row : D} {p x lo hi y M : Int} {found ds : List D} {ws : List O} (ne : x ≠ p) (e1 : (if x < p then x else p) = lo) (e2 : (if x > p then x else p) = hi) (h0 : 0 ≤ lo) (h1 : lo ≤ 12) (h2 : 0 ≤ hi) (h3 : hi ≤ 12) (hd : rngD lo (hi + 1 - lo).toNat = ds) (ey : ixD row (.int x) = some (.sh (.int y)))
    (lc : lcL [5] (gN 5) tY (eOp oIx (eVar 0) (eVar 5)) ds [] [some (.sh row), some (.sh (.int p)), some (.lst (found.map O.sh)), some (.sh (.int x)), some (.sh (.lst ds)), none] = .ok (.lst ws) [some (.sh row), some (.sh (.int p)), some (.lst (found.map O.sh)), some (.sh (.int x)), some (.sh (.lst ds)), none]) (em : maxD (.lst (toDs ws)) = some (.sh (.int M))) (hl : found.length < 100000) :
    (gN 3 (.sh (.int x)) [some (.sh row), some (.sh (.int p)), some (.lst (found.map O.sh)), none, none, none]).bind (fun _ s => hB s) = .ok .nx [some (.sh row), some (.sh (.int p)), some (.lst ((if y = M then found ++ [D.int x] else found).map O.sh)), none, none, none] := by
  have s1 : small5 lo = true := small5_of (by omega) (by omega)
  have s2 : small5 (hi + 1) = true := small5_of (by omega) (by omega)
  have k3 : toDs (List.map O.sh ds) = ds := toDs_map _
  unfold hB
  by_cases z : y = M
  · simp [s1, s2, e1, e2, hd, ey, lc, em, hl, ne, z, k3, -ixD_r, -List.map_map]
  · simp [s1, s2, e1, e2, hd, ey, lc, em, hl, ne, z, k3, -ixD_r, -List.map_map]
theorem lc_turn {row : D} {x y : Int} {a b c d : Option O} (e : ixD row (.int x) = some (.sh (.int y))) : ((gN 5 (.sh (.int x)) [some (.sh row), a, b, c, d, none]).bind fun _ s => (tY s).bind fun b s2 => if b = true then ((eOp oIx (eVar 0) (eVar 5)) s2).bind fun o s3 => .ok o (wipeS s3 [5]) else .bad) = .ok (.sh (.int y)) [some (.sh row), a, b, c, d, none] := by
  simp [e, -ixD_r]
def between (v : Nat → Int) (a b : Nat) : List Int := (List.range (b + 1 - a)).map fun i => v (a + i)
theorem mem_between {v : Nat → Int} {a b : Nat} {y : Int} : y ∈ between v a b ↔ ∃ x, a ≤ x ∧ x ≤ b ∧ v x = y := by
  unfold between
  rw [List.mem_map]
  constructor
  · rintro ⟨i, hi, rfl⟩
    have := List.mem_range.mp hi
    exact ⟨a + i, by omega, by omega, rfl⟩
  · rintro ⟨x, h1, h2, rfl⟩
    exact ⟨x - a, List.mem_range.mpr (by omega), by rw [show a + (x - a) = x by omega]⟩
def hiB (v : Nat → Int) (p x : Nat) : Bool := decide (x ≠ p) && decide (v x = maxI (between v (min p x) (max p x)))
section
variable {row : D} {n : Nat} {v : Nat → Int} (R : RowV row n v)
include R
theorem hiB_up {p x : Nat} (hp : p < n) (hx : x < n) : hiB v p x = true ↔ Up v p x := by
  unfold hiB Up
  rw [Bool.and_eq_true, decide_eq_true_eq, decide_eq_true_eq]
  have ne : between v (min p x) (max p x) ≠ [] := by
    intro z
    have : v p ∈ between v (min p x) (max p x) := mem_between.mpr ⟨p, by omega, by omega, rfl⟩
    rw [z] at this
    cases this
  obtain ⟨m1, m2⟩ := maxI_spec ne
  constructor
  · rintro ⟨h1, h2⟩
    have all : ∀ y, min p x ≤ y → y ≤ max p x → y ≠ x → v y < v x := fun y y1 y2 y3 => by
      have a := m2 _ (mem_between.mpr ⟨y, y1, y2, rfl⟩)
      have b : v y ≠ v x := fun e => y3 (R.inj y x (by omega) hx e)
      omega
    rcases Nat.lt_or_gt_of_ne h1 with z | z
    · exact .inr ⟨z, fun y y1 y2 => all y (by omega) (by omega) (by omega)⟩
    · exact .inl ⟨z, fun y y1 y2 => all y (by omega) (by omega) (by omega)⟩
  · intro h
    have all : ∀ y, min p x ≤ y → y ≤ max p x → v y ≤ v x := fun y y1 y2 => by
      by_cases e : y = x
      · rw [e]
        exact Int.le_refl _
      · rcases h with ⟨z, h⟩ | ⟨z, h⟩
        · exact Int.le_of_lt (h y (by omega) (by omega))
        · exact Int.le_of_lt (h y (by omega) (by omega))
    refine ⟨by rcases h with h | h <;> omega, (maxI_uniq (mem_between.mpr ⟨x, by omega, by omega, rfl⟩) fun y hy => ?_).symm⟩
    obtain ⟨z, z1, z2, rfl⟩ := mem_between.mp hy
    exact all z z1 z2
def hF (v : Nat → Int) (p k : Nat) : List Nat := (List.range k).filter (hiB v p)
omit R in
theorem hF_succ (v : Nat → Int) (p k : Nat) : hF v p (k + 1) = if hiB v p k = true then hF v p k ++ [k] else hF v p k := by
  unfold hF
  rw [List.range_succ, List.filter_append]
  cases z : hiB v p k with
  | true => rw [List.filter_cons_of_pos z, if_pos rfl]; rfl
  | false => rw [List.filter_cons_of_neg (by rw [z]; decide), if_neg Bool.false_ne_true]; simp
theorem h_turn {p k : Nat} (hp : p < n) (hk : k < n) (hn : n ≤ 12) : (gN 3 (.sh (.int (k : Int))) [some (.sh row), some (.sh (.int p)), some (.lst ((cI (hF v p k)).map O.sh)), none, none, none]).bind (fun _ s => hB s) = .ok .nx [some (.sh row), some (.sh (.int p)), some (.lst ((cI (hF v p (k + 1))).map O.sh)), none, none, none] := by
  rw [hF_succ]
  by_cases e : k = p
  · subst e
    have hz : hiB v k k = false := by unfold hiB; simp
    rw [hz, if_neg Bool.false_ne_true]
    exact h_self (by omega) (by omega)
  · have len : (cI (hF v p k)).length < 100000 := by
      unfold cI hF
      rw [List.length_map]
      have := List.length_filter_le (hiB v p) (List.range k)
      rw [List.length_range] at this
      omega
    have hr : rngD ((min p k : Nat) : Int) (((max p k : Nat) : Int) + 1 - ((min p k : Nat) : Int)).toNat = (List.range (max p k + 1 - min p k)).map fun i : Nat => D.int (((min p k + i : Nat)) : Int) := by
      unfold rngD
      rw [show (((max p k : Nat) : Int) + 1 - ((min p k : Nat) : Int)).toNat = max p k + 1 - min p k by omega]
      refine List.map_congr_left fun i hi => ?_
      show D.int (((min p k : Nat) : Int) + (i : Int)) = D.int ((min p k + i : Nat) : Int)
      exact congrArg D.int (by omega)
    have ey := R.ix (k : Int) k rfl hk
    have lc : ∀ o : O, lcL [5] (gN 5) tY (eOp oIx (eVar 0) (eVar 5)) ((List.range (max p k + 1 - min p k)).map fun i : Nat => D.int (((min p k + i : Nat)) : Int)) [] [some (.sh row), some (.sh (.int p)), some o, some (.sh (.int k)), some (.sh (.lst ((List.range (max p k + 1 - min p k)).map fun i : Nat => D.int (((min p k + i : Nat)) : Int)))), none] = .ok (.lst ((List.range (max p k + 1 - min p k)).map fun i => O.sh (.int (v (min p k + i))))) [some (.sh row), some (.sh (.int p)), some o, some (.sh (.int k)), some (.sh (.lst ((List.range (max p k + 1 - min p k)).map fun i : Nat => D.int (((min p k + i : Nat)) : Int)))), none] := fun o => by
      generalize hds : (O.sh (.lst ((List.range (max p k + 1 - min p k)).map fun i : Nat => D.int (((min p k + i : Nat)) : Int)))) = dd
      have := lcL_st (own := [5]) (fg := gN 5) (ftt := tY) (fe := eOp oIx (eVar 0) (eVar 5)) (fun _ => [some (.sh row), some (.sh (.int p)), some o, some (.sh (.int k)), some dd, none]) (fun i => O.sh (.int (v (min p k + i)))) ((List.range (max p k + 1 - min p k)).map fun i : Nat => D.int (((min p k + i : Nat)) : Int)) (by simp; omega) fun i d hd => by
        rw [List.getElem?_map] at hd
        by_cases z : i < max p k + 1 - min p k
        · rw [List.getElem?_range z] at hd
          cases hd
          have ez := R.ix (((min p k + i : Nat)) : Int) (min p k + i) rfl (by omega)
          exact lc_turn ez
        · rw [List.getElem?_eq_none (by rw [List.length_range]; omega)] at hd
          cases hd
      rw [List.length_map, List.length_range] at this
      exact this
    have em : maxD (.lst (toDs ((List.range (max p k + 1 - min p k)).map fun i => O.sh (.int (v (min p k + i)))))) = some (.sh (.int (maxI (between v (min p k) (max p k))))) := by
      rw [toDs_mapf fun i => D.int (v (min p k + i))]
      have e1 : ((List.range (max p k + 1 - min p k)).map fun i => D.int (v (min p k + i))) = (between v (min p k) (max p k)).map D.int := by
        unfold between
        rw [List.map_map]
        rfl
      rw [e1]
      unfold maxD
      dsimp only [seq2_lst]
      rw [intsOf_map]
      dsimp only
      rw [if_pos]
      intro z
      have : v p ∈ between v (min p k) (max p k) := mem_between.mpr ⟨p, by omega, by omega, rfl⟩
      rw [z] at this
      cases this
    have t := h_other (row := row) (p := (p : Int)) (x := (k : Int)) (lo := ((min p k : Nat) : Int)) (hi := ((max p k : Nat) : Int)) (found := cI (hF v p k)) (by omega) (by split <;> omega) (by split <;> omega) (by omega) (by omega) (by omega) (by omega) hr ey (lc _) em len
    refine t.trans ?_
    congr 5
    have : hiB v p k = true ↔ v k = maxI (between v (min p k) (max p k)) := by
      unfold hiB
      rw [Bool.and_eq_true, decide_eq_true_eq, decide_eq_true_eq]
      exact ⟨fun h => h.2, fun h => ⟨e, h⟩⟩
    by_cases z : v k = maxI (between v (min p k) (max p k))
    · have hc : cI (hF v p k) ++ [D.int (k : Int)] = cI (hF v p k ++ [k]) := by unfold cI; rw [List.map_append]; rfl
      rw [if_pos z, if_pos (this.mpr z), hc]
    · rw [if_neg z, if_neg fun h => z (this.mp h)]
omit R in
theorem high0 {row : D} {p L : Int} {rs : List O} (el : lenD row = some (.sh (.int L))) (h0 : 0 ≤ L) (h1 : L ≤ 12) (lp : forL (gN 3) hB (rngD 0 L.toNat) [some (.sh row), some (.sh (.int p)), some (.lst []), none, none, none] = .ok .nx [some (.sh row), some (.sh (.int p)), some (.lst rs), none, none, none]) : C_l_higher.run [.sh row, .sh (.int p)] = .ok (.lst rs) [] := by
  refine run_rt (s2 := [some (.sh row), some (.sh (.int p)), none, none, none, none]) (s3 := [some (.sh row), some (.sh (.int p)), none, none, none, none]) ?_ rfl
  have ir : inR L = true := inR_of (by omega) (by omega)
  unfold hB at lp
  unfold fb_l_higher
  generalize sEnd [3, 4] _ = body at lp ⊢
  simp [el, ir, lp]
theorem higher {p : Nat} (hp : p < n) (hn : n ≤ 12) : C_l_higher.run [.sh row, .sh (.int p)] = .ok (.lst ((cI (hF v p n)).map O.sh)) [] := by
  refine high0 (L := (n : Int)) R.el (by omega) (by omega) ?_
  rw [Int.toNat_natCast]
  have := forL_st (fg := gN 3) (fb := hB) (fun k => [some (.sh row), some (.sh (.int p)), some (.lst ((cI (hF v p k)).map O.sh)), none, none, none]) (rngD 0 n) fun k d hd => by
    obtain ⟨rfl, hk⟩ := rngD_get hd
    rw [Int.zero_add]
    exact h_turn R hp hk hn
  rw [rngD_len] at this
  exact this
theorem higher_mem {p q : Nat} (hp : p < n) (hq : q < n) : inB (.int (q : Int)) (.lst (cI (hF v p n))) = some (hiB v p q) := by
  have c : cI (hF v p n) = ((hF v p n).map fun x : Nat => (x : Int)).map D.int := by unfold cI; rw [List.map_map]; rfl
  rw [c]
  unfold inB
  dsimp only
  rw [intsOf_map]
  dsimp only
  congr 1
  rw [Bool.eq_iff_iff, decide_eq_true_eq, List.mem_map]
  unfold hF
  constructor
  · rintro ⟨x, h1, h2⟩
    obtain rfl : x = q := by omega
    exact (List.mem_filter.mp h1).2
  · intro h
    exact ⟨q, List.mem_filter.mpr ⟨List.mem_range.mpr hq, h⟩, rfl⟩
end
end K70
end

section
namespace K70
open PySem PySem.Spec PyProof.Rows L2 TX
/-! ### stretches, moves, chains: no runs -/
def J (cl : Nat → Prop) (i j : Nat) : Prop := ∀ x, min i j ≤ x → x < max i j → cl x
theorem J.refl {cl : Nat → Prop} (i : Nat) : J cl i i := fun x h1 h2 => by omega
theorem J.symm {cl : Nat → Prop} {i j : Nat} (h : J cl i j) : J cl j i := fun x h1 h2 => h x (by omega) (by omega)
theorem J.trans {cl : Nat → Prop} {i j k : Nat} (h : J cl i j) (g : J cl j k) : J cl i k := fun x h1 h2 => by
  by_cases z : min i j ≤ x ∧ x < max i j
  · exact h x z.1 z.2
  · exact g x (by omega) (by omega)
theorem J.mono {cl cm : Nat → Prop} (m : ∀ x, cl x → cm x) {i j : Nat} (h : J cl i j) : J cm i j := fun x h1 h2 => m x (h x h1 h2)
inductive Path (h : Nat → Option Nat) : Nat → Nat → Prop
  | refl (i : Nat) : Path h i i
  | step {i k j : Nat} : h i = some k → Path h k j → Path h i j
theorem Path.trans {h : Nat → Option Nat} {i j k : Nat} (p : Path h i j) (q : Path h j k) : Path h i k := by
  induction p with
  | refl _ => exact q
  | step e _ ih => exact .step e (ih q)
theorem Path.mono {h g : Nat → Option Nat} (m : ∀ i k, h i = some k → g i = some k) {i j : Nat} (p : Path h i j) : Path g i j := by
  induction p with
  | refl _ => exact .refl _
  | step e _ ih => exact .step (m _ _ e) ih
inductive Chain (h : Nat → Option Nat) : Nat → List Nat → Prop
  | stop {i : Nat} : h i = none → Chain h i []
  | step {i k : Nat} {l : List Nat} : h i = some k → Chain h k l → Chain h i (k :: l)
theorem Chain.path {h : Nat → Option Nat} {i : Nat} {l : List Nat} (c : Chain h i l) {j : Nat} (p : Path h i j) : j = i ∨ j ∈ l := by
  induction p generalizing l with
  | refl _ => exact .inl rfl
  | step e _ ih =>
    cases c with
    | stop z => rw [z] at e; cases e
    | step z c =>
      rw [z] at e
      cases e
      rcases ih c with rfl | q
      · exact .inr List.mem_cons_self
      · exact .inr (List.mem_cons_of_mem _ q)
theorem Up.lt {v : Nat → Int} {p q : Nat} (h : Up v p q) : v p < v q := by
  rcases h with ⟨h1, h2⟩ | ⟨h1, h2⟩
  · exact h2 p (by omega) h1
  · exact h2 p h1 (by omega)
theorem Up.trans {v : Nat → Int} {i k m : Nat} (a : Up v i k) (b : Up v k m) : Up v i m := by
  have l1 := a.lt
  have l2 := b.lt
  have big : ∀ x, min i k ≤ x → x ≤ max i k → v x ≤ v k := fun x h1 h2 => by
    by_cases e : x = k
    · rw [e]; exact Int.le_refl _
    · rcases a with ⟨z, a⟩ | ⟨z, a⟩
      · exact Int.le_of_lt (a x (by omega) (by omega))
      · exact Int.le_of_lt (a x (by omega) (by omega))
  have far : ¬ (min i k ≤ m ∧ m ≤ max i k) := fun z => by
    have := big m z.1 z.2
    omega
  rcases b with ⟨z, b⟩ | ⟨z, b⟩
  · refine .inl ⟨by omega, fun x h1 h2 => ?_⟩
    by_cases w : k ≤ x
    · exact b x w h2
    · have := big x (by omega) (by omega)
      omega
  · refine .inr ⟨by omega, fun x h1 h2 => ?_⟩
    by_cases w : x ≤ k
    · exact b x h1 w
    · have := big x (by omega) (by omega)
      omega
def lowOf (v : Nat → Int) (O : Nat → Nat) (c : Nat) : Nat := if v (O (c + 1)) < v (O c) then O (c + 1) else O c
def hiOf (v : Nat → Int) (O : Nat → Nat) (c : Nat) : Nat := if v (O (c + 1)) < v (O c) then O c else O (c + 1)
def stO (v : Nat → Int) (O : Nat → Nat) (c : Nat) : Nat → Nat := fun i => if O i = lowOf v O c then hiOf v O c else O i
def stH (v : Nat → Int) (O : Nat → Nat) (h : Nat → Option Nat) (c : Nat) : Nat → Option Nat := fun i => if i = lowOf v O c then some (hiOf v O c) else h i
structure Inv (n : Nat) (v : Nat → Int) (cl : Nat → Prop) (O : Nat → Nat) (h : Nat → Option Nat) : Prop where
  lt : ∀ i, i < n → O i < n
  jn : ∀ i, i < n → J cl i (O i)
  mx : ∀ i j, i < n → j < n → J cl i j → v j ≤ v (O i)
  hn : ∀ i, i < n → h (O i) = none
  pth : ∀ i, i < n → Path h i (O i)
  up : ∀ i k, i < n → h i = some k → k < n ∧ Up v i k
theorem Inv.start {n : Nat} {v : Nat → Int} : Inv n v (fun _ => False) id fun _ => none where
  lt i h := h
  jn i h := J.refl i
  mx i j hi hj h := by
    by_cases e : i = j
    · rw [e]; exact Int.le_refl _
    · exact (h (min i j) (by omega) (by omega)).elim
  hn _ _ := rfl
  pth i _ := .refl i
  up i k _ h := by cases h
section
variable {n : Nat} {v : Nat → Int} (inj : ∀ x y, x < n → y < n → v x = v y → x = y)
include inj
theorem Inv.same {cl : Nat → Prop} {O : Nat → Nat} {h : Nat → Option Nat} (I : Inv n v cl O h) {i j : Nat} (hi : i < n) (hj : j < n) (q : J cl i j) : O i = O j := by
  have a := I.mx j (O i) hj (I.lt i hi) (q.symm.trans (I.jn i hi))
  have b := I.mx i (O j) hi (I.lt j hj) (q.trans (I.jn j hj))
  exact inj _ _ (I.lt i hi) (I.lt j hj) (by omega)
theorem Inv.ends {cl : Nat → Prop} {O : Nat → Nat} {h : Nat → Option Nat} (I : Inv n v cl O h) {c : Nat} (hc : c + 1 < n) (nc : ¬ cl c) : ((lowOf v O c = O c ∧ hiOf v O c = O (c + 1)) ∨ (lowOf v O c = O (c + 1) ∧ hiOf v O c = O c)) ∧ v (lowOf v O c) < v (hiOf v O c) := by
  have ne : O c ≠ O (c + 1) := fun e => nc ((((I.jn c (by omega)).trans (by rw [e]; exact (I.jn (c + 1) hc).symm)) : J cl c (c + 1)) c (by omega) (by omega))
  have nv : v (O c) ≠ v (O (c + 1)) := fun e => ne (inj _ _ (I.lt c (by omega)) (I.lt (c + 1) hc) e)
  unfold lowOf hiOf
  by_cases z : v (O (c + 1)) < v (O c)
  · rw [if_pos z, if_pos z]
    exact ⟨.inr ⟨rfl, rfl⟩, z⟩
  · rw [if_neg z, if_neg z]
    exact ⟨.inl ⟨rfl, rfl⟩, by omega⟩
theorem Inv.next {cl : Nat → Prop} {O : Nat → Nat} {h : Nat → Option Nat} (I : Inv n v cl O h) {c : Nat} (hc : c + 1 < n) (nc : ¬ cl c) : Inv n v (fun x => cl x ∨ x = c) (stO v O c) (stH v O h c) := by
  obtain ⟨ab, lv⟩ := I.ends inj hc nc
  have c0 : c < n := by omega
  have l1 : lowOf v O c < n := by rcases ab with ⟨a, _⟩ | ⟨a, _⟩ <;> (rw [a]; exact I.lt _ (by omega))
  have l2 : hiOf v O c < n := by rcases ab with ⟨_, a⟩ | ⟨_, a⟩ <;> (rw [a]; exact I.lt _ (by omega))
  have n1 : h (lowOf v O c) = none := by rcases ab with ⟨a, _⟩ | ⟨a, _⟩ <;> (rw [a]; exact I.hn _ (by omega))
  have n2 : h (hiOf v O c) = none := by rcases ab with ⟨_, a⟩ | ⟨_, a⟩ <;> (rw [a]; exact I.hn _ (by omega))
  have ne : hiOf v O c ≠ lowOf v O c := fun e => by rw [e] at lv; omega
  have mo : ∀ x, cl x → (cl x ∨ x = c) := fun x h => .inl h
  have jc : J (fun x => cl x ∨ x = c) c (c + 1) := fun x h1 h2 => .inr (by omega)
  have jlh : J (fun x => cl x ∨ x = c) (lowOf v O c) (hiOf v O c) := by
    have q1 := (I.jn c c0).mono mo
    have q2 := (I.jn (c + 1) hc).mono mo
    rcases ab with ⟨a, b⟩ | ⟨a, b⟩
    · rw [a, b]; exact q1.symm.trans (jc.trans q2)
    · rw [a, b]; exact q2.symm.trans (jc.symm.trans q1)
  have hm : ∀ i k, h i = some k → stH v O h c i = some k := fun i k e => by
    unfold stH
    rw [if_neg fun z => by rw [z, n1] at e; cases e]
    exact e
  have big : ∀ j, j < n → (J cl j c ∨ J cl j (c + 1)) → v j ≤ v (hiOf v O c) := fun j hj q => by
    have t : ∀ w, w < n → J cl j w → (O w = lowOf v O c ∨ O w = hiOf v O c) → v j ≤ v (hiOf v O c) := fun w hw q e => by
      have := I.mx w j hw hj q.symm
      rcases e with e | e <;> (rw [e] at this; omega)
    rcases q with q | q
    · exact t c c0 q (by rcases ab with ⟨a, b⟩ | ⟨a, b⟩ <;> simp [a, b])
    · exact t (c + 1) hc q (by rcases ab with ⟨a, b⟩ | ⟨a, b⟩ <;> simp [a, b])
  have cross : ∀ i j, J (fun x => cl x ∨ x = c) i j → ¬ J cl i j → (J cl i c ∧ J cl j (c + 1)) ∨ (J cl j c ∧ J cl i (c + 1)) := fun i j q z => by
    have inn : min i j ≤ c ∧ c < max i j := by
      refine Classical.byContradiction fun w => z fun x h1 h2 => ?_
      rcases q x h1 h2 with u | u
      · exact u
      · omega
    have part : ∀ x, min i j ≤ x → x < max i j → x ≠ c → cl x := fun x h1 h2 h3 => by
      rcases q x h1 h2 with u | u
      · exact u
      · exact absurd u h3
    by_cases w : i ≤ c
    · exact .inl ⟨fun x h1 h2 => part x (by omega) (by omega) (by omega), fun x h1 h2 => part x (by omega) (by omega) (by omega)⟩
    · exact .inr ⟨fun x h1 h2 => part x (by omega) (by omega) (by omega), fun x h1 h2 => part x (by omega) (by omega) (by omega)⟩
  refine ⟨fun i hi => ?_, fun i hi => ?_, fun i j hi hj q => ?_, fun i hi => ?_, fun i hi => ?_, fun i k hi e => ?_⟩
  · unfold stO
    split
    · exact l2
    · exact I.lt i hi
  · unfold stO
    split
    · rename_i z
      exact ((I.jn i hi).mono mo).trans (by rw [z]; exact jlh)
    · exact (I.jn i hi).mono mo
  · unfold stO
    by_cases z : J cl i j
    · have a := I.mx i j hi hj z
      split
      · rename_i w
        rw [w] at a
        omega
      · exact a
    · have both : v j ≤ v (hiOf v O c) ∧ (O i = lowOf v O c ∨ O i = hiOf v O c) := by
        rcases cross i j q z with ⟨a, b⟩ | ⟨a, b⟩
        · refine ⟨big j hj (.inr b), ?_⟩
          rw [I.same inj hi c0 a]
          rcases ab with ⟨a, b⟩ | ⟨a, b⟩ <;> simp [a, b]
        · refine ⟨big j hj (.inl a), ?_⟩
          rw [I.same inj hi hc b]
          rcases ab with ⟨a, b⟩ | ⟨a, b⟩ <;> simp [a, b]
      split
      · exact both.1
      · rename_i w
        rw [both.2.resolve_left w]
        exact both.1
  · by_cases z : O i = lowOf v O c
    · have e : stO v O c i = hiOf v O c := by unfold stO; rw [if_pos z]
      rw [e]
      unfold stH
      rw [if_neg ne]
      exact n2
    · have e : stO v O c i = O i := by unfold stO; rw [if_neg z]
      rw [e]
      unfold stH
      rw [if_neg z]
      exact I.hn i hi
  · have p := (I.pth i hi).mono hm
    unfold stO
    split
    · rename_i z
      rw [z] at p
      exact p.trans (.step (by unfold stH; rw [if_pos rfl]) (.refl _))
    · exact p
  · unfold stH at e
    split at e
    · rename_i z
      cases e
      subst z
      refine ⟨l2, ?_⟩
      have all : ∀ x, min (lowOf v O c) (hiOf v O c) ≤ x → x ≤ max (lowOf v O c) (hiOf v O c) → x ≠ hiOf v O c → v x < v (hiOf v O c) := fun x h1 h2 h3 => by
        have hx : x < n := by omega
        have q1 : J (fun x => cl x ∨ x = c) (hiOf v O c) x := fun y y1 y2 => jlh y (by omega) (by omega)
        have q2 : J cl (hiOf v O c) c ∨ J cl (hiOf v O c) (c + 1) := by
          rcases ab with ⟨a, b⟩ | ⟨a, b⟩
          · rw [b]; exact .inr (I.jn _ hc).symm
          · rw [b]; exact .inl (I.jn _ c0).symm
        have le : v x ≤ v (hiOf v O c) := by
          by_cases z : J cl (hiOf v O c) x
          · exact big x hx (by rcases q2 with q | q; exact .inl (z.symm.trans q); exact .inr (z.symm.trans q))
          · rcases cross _ _ q1 z with ⟨_, b⟩ | ⟨a, _⟩
            · exact big x hx (.inr b)
            · exact big x hx (.inl a)
        have : v x ≠ v (hiOf v O c) := fun e => h3 (inj x _ hx l2 e)
        omega
      by_cases w : lowOf v O c < hiOf v O c
      · exact .inl ⟨w, fun x h1 h2 => all x (by omega) (by omega) (by omega)⟩
      · exact .inr ⟨by omega, fun x h1 h2 => all x (by omega) (by omega) (by omega)⟩
    · exact I.up i k hi e
end
end K70
end

section
namespace K70
open PySem PySem.Spec PyProof.Rows L2 TX
theorem toDs_gen {α : Type} (g : α → O) : ∀ xs : List α, toDs (xs.map g) = xs.map fun x => toD (g x)
  | [] => rfl
  | x :: xs => by rw [List.map_cons, toDs_cons, toDs_gen g xs]; rfl
/-! ### top -/
theorem t_turn {row a : D} {x y : Int} (e : ixD row (.int x) = some (.sh (.int y))) : ((gN 2 (.sh (.int x)) [some (.sh row), some (.sh a), none]).bind fun _ s => (tY s).bind fun b s2 => if b = true then ((eTup (aC (eOp oIx (eVar 0) (eVar 2)) (aC (eVar 2) aN))) s2).bind fun o s3 => .ok o (wipeS s3 [2]) else .bad) = .ok (.sh (.tup [.int y, .int x])) [some (.sh row), some (.sh a), none] := by
  simp [e, -ixD_r]
theorem top0 {row : D} {ds : List D} {ws : List O} {m t : Int} (lc : lcL [2] (gN 2) tY (eTup (aC (eOp oIx (eVar 0) (eVar 2)) (aC (eVar 2) aN))) ds [] [some (.sh row), some (.sh (.lst ds)), none] = .ok (.lst ws) [some (.sh row), some (.sh (.lst ds)), none]) (em : maxD (.lst (toDs ws)) = some (.sh (.tup [.int m, .int t]))) : C_l_top.run [.sh row, .sh (.lst ds)] = .ok (.sh (.int t)) [] := by
  refine run_rt (s2 := [some (.sh row), some (.sh (.lst ds)), none]) (s3 := [some (.sh row), some (.sh (.lst ds)), none]) ?_ rfl
  unfold fb_l_top
  generalize (eTup _) = ee at lc ⊢
  simp [lc, em]
theorem maxD_pairs {ps : List (Int × Int)} (h : ps ≠ []) : maxD (.lst (ps.map pairI)) = some (.sh (pairI (maxP ps))) := by
  unfold maxD
  dsimp only [seq2_lst]
  cases ps with
  | nil => exact absurd rfl h
  | cons p ps =>
    have e : intsOf ((p :: ps).map pairI) = none := rfl
    rw [e]
    dsimp only
    rw [pairsOf_map]
    dsimp only
    rw [if_pos h]
section
variable {row : D} {n : Nat} {v : Nat → Int} (R : RowV row n v)
include R
theorem top {xs : List Nat} {t : Nat} (h : ∀ x ∈ xs, x < n) (hl : xs.length ≤ 1000) (ht : t ∈ xs) (hm : ∀ y ∈ xs, v y ≤ v t) : C_l_top.run [.sh row, .sh (.lst (cI xs))] = .ok (.sh (.int t)) [] := by
  have lc := lcL_st (own := [2]) (fg := gN 2) (ftt := tY) (fe := eTup (aC (eOp oIx (eVar 0) (eVar 2)) (aC (eVar 2) aN))) (fun _ => [some (.sh row), some (.sh (.lst (cI xs))), none]) (fun i => O.sh (.tup [.int (v (xs.getD i 0)), .int (xs.getD i 0 : Nat)])) (cI xs) (by unfold cI; rw [List.length_map]; omega) fun i d hd => by
    unfold cI at hd
    rw [List.getElem?_map] at hd
    cases hx : xs[i]? with
    | none => rw [hx] at hd; cases hd
    | some x =>
      rw [hx] at hd
      cases hd
      have e1 : xs.getD i 0 = x := by rw [List.getD_eq_getElem?_getD, hx]; rfl
      dsimp only
      rw [e1]
      exact t_turn (R.ix (x : Int) x rfl (h x (List.mem_of_getElem? hx)))
  refine top0 (m := v t) lc ?_
  rw [toDs_gen]
  have e2 : ((List.range (cI xs).length).map fun i => D.tup [.int (v (xs.getD i 0)), .int (xs.getD i 0 : Nat)]) = (xs.map fun x => (v x, (x : Int))).map pairI := by
    unfold cI
    rw [List.length_map, List.map_map]
    apply List.ext_getElem?
    intro i
    rw [List.getElem?_map, List.getElem?_map]
    by_cases z : i < xs.length
    · have eg : xs.getD i 0 = xs[i] := by rw [List.getD_eq_getElem?_getD, List.getElem?_eq_getElem z]; rfl
      rw [List.getElem?_range z, List.getElem?_eq_getElem z]
      show some (D.tup [.int (v (xs.getD i 0)), .int (xs.getD i 0 : Nat)]) = some (D.tup [.int (v xs[i]), .int (xs[i] : Nat)])
      rw [eg]
    · rw [List.getElem?_eq_none (by rw [List.length_range]; omega), List.getElem?_eq_none (by omega)]
      rfl
  show maxD (.lst ((List.range (cI xs).length).map fun i => D.tup [.int (v (xs.getD i 0)), .int (xs.getD i 0 : Nat)])) = _
  rw [e2, maxD_pairs (by intro z; rw [List.map_eq_nil_iff] at z; rw [z] at ht; cases ht)]
  have e3 : maxP (xs.map fun x => (v x, (x : Int))) = (v t, (t : Int)) := by
    refine maxP_uniq (List.mem_map.mpr ⟨t, ht, rfl⟩) fun y hy => ?_
    obtain ⟨x, hx, rfl⟩ := List.mem_map.mp hy
    have a := hm x hx
    have b : v x = v t → x = t := R.inj x t (h x hx) (h t ht)
    unfold lexGt
    by_cases z : v x = v t
    · have := b z
      subst this
      simp
    · have : v x < v t := by omega
      simp [z]
      omega
  rw [e3]
  rfl
end
/-! ### runs -/
def iv (a b : Nat) : List Nat := (List.range (b + 1 - a)).map fun i => a + i
theorem mem_iv {a b x : Nat} : x ∈ iv a b ↔ a ≤ x ∧ x ≤ b := by
  unfold iv
  rw [List.mem_map]
  constructor
  · rintro ⟨i, hi, rfl⟩
    have := List.mem_range.mp hi
    omega
  · rintro ⟨h1, h2⟩
    exact ⟨x - a, List.mem_range.mpr (by omega), by omega⟩
theorem iv_self (a : Nat) : iv a a = [a] := by
  unfold iv
  rw [show a + 1 - a = 1 by omega]
  rfl
theorem iv_succ {a b : Nat} (h : a ≤ b) : iv a (b + 1) = iv a b ++ [b + 1] := by
  unfold iv
  rw [show b + 1 + 1 - a = (b + 1 - a) + 1 by omega, List.range_succ, List.map_append]
  congr 1
  show [a + (b + 1 - a)] = _
  congr 1
  omega
/-- where the run of a place begins -/
def lo (cl : Nat → Bool) : Nat → Nat
  | 0 => 0
  | k + 1 => if cl k = true then lo cl k else k + 1
theorem lo_le (cl : Nat → Bool) : ∀ k, lo cl k ≤ k
  | 0 => Nat.le_refl _
  | k + 1 => by
    unfold lo
    split
    · have := lo_le cl k
      omega
    · exact Nat.le_refl _
theorem lo_cl (cl : Nat → Bool) : ∀ k x, lo cl k ≤ x → x < k → cl x = true
  | 0, x, h1, h2 => by omega
  | k + 1, x, h1, h2 => by
    unfold lo at h1
    split at h1
    · rename_i z
      by_cases e : x = k
      · rw [e]; exact z
      · exact lo_cl cl k x h1 (by omega)
    · omega
theorem lo_end (cl : Nat → Bool) : ∀ k, 0 < lo cl k → cl (lo cl k - 1) = false
  | 0, h => by simp [lo] at h
  | k + 1, h => by
    unfold lo at h ⊢
    split
    · rename_i z
      rw [if_pos z] at h
      exact lo_end cl k h
    · rename_i z
      simpa using z
/-- the runs before the last one -/
def pre (cl : Nat → Bool) : Nat → List (List Nat)
  | 0 => []
  | k + 1 => if cl k = true then pre cl k else pre cl k ++ [iv (lo cl k) k]
theorem pre_mem (cl : Nat → Bool) : ∀ k r, r ∈ pre cl k → ∀ x ∈ r, x < lo cl k
  | 0, r, h, x, hx => by simp [pre] at h
  | k + 1, r, h, x, hx => by
    unfold pre at h
    unfold lo
    split at h
    · rename_i z
      rw [if_pos z]
      exact pre_mem cl k r h x hx
    · rename_i z
      rw [if_neg z]
      rcases List.mem_append.mp h with h | h
      · have := pre_mem cl k r h x hx
        have := lo_le cl k
        omega
      · rw [List.mem_singleton] at h
        subst h
        have := (mem_iv.mp hx).2
        omega
theorem pre_len (cl : Nat → Bool) : ∀ k, (pre cl k).length ≤ k
  | 0 => Nat.le_refl _
  | k + 1 => by
    unfold pre
    have := pre_len cl k
    split
    · omega
    · rw [List.length_append]
      simp
      omega
def rl (cl : Nat → Bool) (k : Nat) : List (List Nat) := pre cl k ++ [iv (lo cl k) k]
def hasC (c : Nat) (r : List Nat) : Bool := decide (c ∈ r) || decide (c + 1 ∈ r)
theorem hasC_no {c : Nat} {r : List Nat} (h1 : c ∉ r) (h2 : c + 1 ∉ r) : hasC c r = false := by
  unfold hasC
  rw [decide_eq_false h1, decide_eq_false h2]
  rfl
theorem filt_before {cl : Nat → Bool} {c k : Nat} (h : lo cl k ≤ c) : (pre cl k).filter (hasC c) = [] := by
  rw [List.filter_eq_nil_iff]
  intro r hr z
  rw [hasC_no (fun q => by have := pre_mem cl k r hr c q; omega) (fun q => by have := pre_mem cl k r hr _ q; omega)] at z
  cases z
theorem rl_filt {cl : Nat → Bool} {c : Nat} (nc : cl c = false) : ∀ d, ∃ h, c + 1 ≤ h ∧ h ≤ c + 1 + d ∧ (∀ x, c + 1 ≤ x → x < h → cl x = true) ∧ (h < c + 1 + d → cl h = false) ∧ (rl cl (c + 1 + d)).filter (hasC c) = [iv (lo cl c) c, iv (c + 1) h] ∧ ((h = c + 1 + d ∧ lo cl (c + 1 + d) = c + 1 ∧ (pre cl (c + 1 + d)).filter (hasC c) = [iv (lo cl c) c]) ∨ (h < c + 1 + d ∧ c + 1 < lo cl (c + 1 + d) ∧ (pre cl (c + 1 + d)).filter (hasC c) = [iv (lo cl c) c, iv (c + 1) h]))
  | 0 => by
    have yes : hasC c (iv (lo cl c) c) = true := by
      unfold hasC
      rw [decide_eq_true (mem_iv.mpr ⟨lo_le cl c, Nat.le_refl _⟩)]
      rfl
    have yes2 : hasC c (iv (c + 1) (c + 1)) = true := by
      unfold hasC
      rw [decide_eq_true (show c + 1 ∈ iv (c + 1) (c + 1) from mem_iv.mpr ⟨Nat.le_refl _, Nat.le_refl _⟩), Bool.or_true]
    have el : lo cl (c + 1) = c + 1 := by unfold lo; rw [nc, if_neg Bool.false_ne_true]
    have ep : (pre cl (c + 1)).filter (hasC c) = [iv (lo cl c) c] := by
      unfold pre
      rw [nc, if_neg Bool.false_ne_true, List.filter_append, filt_before (lo_le cl c), List.filter_cons_of_pos yes]
      rfl
    refine ⟨c + 1, Nat.le_refl _, Nat.le_refl _, fun x h1 h2 => by omega, fun h => by omega, ?_, .inl ⟨rfl, el, ep⟩⟩
    show (rl cl (c + 1)).filter (hasC c) = _
    unfold rl
    rw [List.filter_append, ep, el, List.filter_cons_of_pos yes2]
    rfl
  | d + 1 => by
    obtain ⟨h, h1, h2, h3, h4, h5, h6⟩ := rl_filt nc d
    have yes : ∀ h, c + 1 ≤ h → hasC c (iv (c + 1) h) = true := fun h q => by
      unfold hasC
      rw [decide_eq_true (show c + 1 ∈ iv (c + 1) h from mem_iv.mpr ⟨Nat.le_refl _, q⟩), Bool.or_true]
    show ∃ h, c + 1 ≤ h ∧ h ≤ c + 1 + d + 1 ∧ (∀ x, c + 1 ≤ x → x < h → cl x = true) ∧ (h < c + 1 + d + 1 → cl h = false) ∧ (rl cl (c + 1 + d + 1)).filter (hasC c) = [iv (lo cl c) c, iv (c + 1) h] ∧ ((h = c + 1 + d + 1 ∧ lo cl (c + 1 + d + 1) = c + 1 ∧ (pre cl (c + 1 + d + 1)).filter (hasC c) = [iv (lo cl c) c]) ∨ (h < c + 1 + d + 1 ∧ c + 1 < lo cl (c + 1 + d + 1) ∧ (pre cl (c + 1 + d + 1)).filter (hasC c) = [iv (lo cl c) c, iv (c + 1) h]))
    generalize c + 1 + d = k at *
    by_cases z : cl k = true
    · have el : lo cl (k + 1) = lo cl k := by conv => lhs; unfold lo
                                              rw [if_pos z]
      have ep : pre cl (k + 1) = pre cl k := by conv => lhs; unfold pre
                                                rw [if_pos z]
      rcases h6 with ⟨e1, e2, e3⟩ | ⟨e1, e2, e3⟩
      · subst e1
        refine ⟨h + 1, by omega, Nat.le_refl _, fun x x1 x2 => ?_, fun q => by omega, ?_, .inl ⟨rfl, by rw [el, e2], by rw [ep, e3]⟩⟩
        · by_cases w : x = h
          · rw [w]; exact z
          · exact h3 x x1 (by omega)
        · unfold rl
          rw [List.filter_append, ep, e3, el, e2, List.filter_cons_of_pos (yes _ (by omega))]
          rfl
      · have no : hasC c (iv (lo cl k) (k + 1)) = false := hasC_no (fun q => by have := (mem_iv.mp q).1; omega) (fun q => by have := (mem_iv.mp q).1; omega)
        refine ⟨h, h1, by omega, h3, fun _ => h4 e1, ?_, .inr ⟨by omega, by rw [el]; exact e2, by rw [ep, e3]⟩⟩
        unfold rl
        rw [List.filter_append, ep, e3, el, List.filter_cons_of_neg (by rw [no]; decide)]
        rfl
    · have zf : cl k = false := by simpa using z
      have el : lo cl (k + 1) = k + 1 := by conv => lhs; unfold lo
                                            rw [if_neg z]
      have ep : pre cl (k + 1) = pre cl k ++ [iv (lo cl k) k] := by conv => lhs; unfold pre
                                                                    rw [if_neg z]
      have no : hasC c (iv (k + 1) (k + 1)) = false := hasC_no (fun q => by have := (mem_iv.mp q).1; omega) (fun q => by have := (mem_iv.mp q).1; omega)
      have er : (pre cl (k + 1)).filter (hasC c) = [iv (lo cl c) c, iv (c + 1) h] := by
        rw [ep]
        exact h5
      refine ⟨h, h1, by omega, h3, fun q => ?_, ?_, .inr ⟨by omega, by rw [el]; omega, er⟩⟩
      · by_cases w : h = k
        · rw [w]; exact zf
        · exact h4 (by omega)
      · unfold rl
        rw [List.filter_append, er, el, List.filter_cons_of_neg (by rw [no]; decide)]
        rfl
end K70
end

section
namespace K70
open PySem PySem.Spec PyProof.Rows L2 TX
theorem ix_last (m : Nat) : ixN (m + 1) (-1) = some m := by
  unfold ixN
  rw [if_neg (by omega), if_pos (by omega)]
  congr 1
  omega
theorem app_last {a b : Option O} {pre : List O} {ls : List O} {d : D} (h : ls.length < 100000) : sAppAt 2 (-1) 3 [a, b, some (.lst (pre ++ [.lst ls])), some (.sh d)] = .ok (.sh .non) [a, b, some (.lst (pre ++ [.lst (ls ++ [.sh d])])), some (.sh d)] := by
  unfold sAppAt
  have e1 : (pre ++ [O.lst ls]).length = pre.length + 1 := by rw [List.length_append]; rfl
  have e2 : (pre ++ [O.lst ls])[pre.length]? = some (.lst ls) := by simp
  have e3 : (pre ++ [O.lst ls]).set pre.length (.lst (ls ++ [.sh d])) = pre ++ [.lst (ls ++ [.sh d])] := by simp
  rw [show ownL [a, b, some (.lst (pre ++ [O.lst ls])), some (.sh d)] 2 = some (pre ++ [O.lst ls]) from rfl, show ([a, b, some (.lst (pre ++ [O.lst ls])), some (.sh d)] : Sl)[3]? = some (some (.sh d)) from rfl]
  dsimp only
  rw [e1, ix_last]
  dsimp only
  rw [e2]
  dsimp only
  rw [if_pos h, e3]
  rfl
def clB (cs : List Nat) (k : Nat) : Bool := decide (k ∈ cs)
theorem in_cI (cs : List Nat) (i : Int) (k : Nat) (h : i = (k : Int)) : inB (.int i) (.lst (cI cs)) = some (clB cs k) := by
  have c : cI cs = (cs.map fun x : Nat => (x : Int)).map D.int := by unfold cI; rw [List.map_map]; rfl
  rw [c, h]
  unfold inB
  dsimp only
  rw [intsOf_map]
  dsimp only
  congr 1
  unfold clB
  rw [decide_eq_decide, List.mem_map]
  constructor
  · rintro ⟨x, h1, h2⟩
    rwa [show k = x by omega]
  · intro h
    exact ⟨k, h, rfl⟩
def ruB : FS := (sEnd [3] (sIf (eB (eOp oIn (eOp oSub (eVar 3) (eK (.int 1))) (eVar 1))) (sDrop (sAppAt 2 (-1) 3)) (sDrop (eM 2 mApp (aC (eLst (aC (eVar 3) aN)) aN)))))
theorem ru_yes {a : Option O} {d : D} {s : Int} {pre ls : List O} (e : inB (.int (s - 1)) d = some true) (h : ls.length < 100000) : (gN 3 (.sh (.int s)) [a, some (.sh d), some (.lst (pre ++ [.lst ls])), none]).bind (fun _ s => ruB s) = .ok .nx [a, some (.sh d), some (.lst (pre ++ [.lst (ls ++ [.sh (.int s)])])), none] := by
  have ap := app_last (a := a) (b := some (.sh d)) (pre := pre) (ls := ls) (d := .int s) h
  unfold ruB
  generalize sAppAt 2 (-1) 3 = ff at ap
  simp [e, ap]
theorem ru_no {a : Option O} {d : D} {s : Int} {os : List O} (e : inB (.int (s - 1)) d = some false) (h : os.length < 100000) : (gN 3 (.sh (.int s)) [a, some (.sh d), some (.lst os), none]).bind (fun _ s => ruB s) = .ok .nx [a, some (.sh d), some (.lst (os ++ [.lst [.sh (.int s)]])), none] := by
  unfold ruB
  generalize sAppAt 2 (-1) 3 = ff
  simp [e, h]
def ruO (rs : List (List Nat)) : List O := rs.map fun r => O.lst ((cI r).map O.sh)
theorem cI_app (a b : List Nat) : cI (a ++ b) = cI a ++ cI b := by unfold cI; rw [List.map_append]
theorem runs_loop {a : Option O} {cs : List Nat} {n : Nat} (hn : n ≤ 12) : forL (gN 3) ruB (rngD 1 (n - 1)) [a, some (.sh (.lst (cI cs))), some (.lst (ruO (rl (clB cs) 0))), none] = .ok .nx [a, some (.sh (.lst (cI cs))), some (.lst (ruO (rl (clB cs) (n - 1)))), none] := by
  have := forL_st (fg := gN 3) (fb := ruB) (fun k => [a, some (.sh (.lst (cI cs))), some (.lst (ruO (rl (clB cs) k))), none]) (rngD 1 (n - 1)) fun k d hd => by
    obtain ⟨rfl, hk⟩ := rngD_get hd
    have e := in_cI cs ((1 : Int) + (k : Int) - 1) k (by omega)
    have es : (1 : Int) + (k : Int) = ((k + 1 : Nat) : Int) := by omega
    cases z : clB cs k with
    | true =>
      rw [z] at e
      have t := ru_yes (a := a) (s := 1 + (k : Int)) (pre := ruO (pre (clB cs) k)) (ls := (cI (iv (lo (clB cs) k) k)).map O.sh) e (by unfold cI iv; simp; omega)
      have e1 : ruO (rl (clB cs) k) = ruO (pre (clB cs) k) ++ [O.lst ((cI (iv (lo (clB cs) k) k)).map O.sh)] := by unfold rl ruO; rw [List.map_append]; rfl
      have e2 : ruO (rl (clB cs) (k + 1)) = ruO (pre (clB cs) k) ++ [O.lst ((cI (iv (lo (clB cs) k) k)).map O.sh ++ [O.sh (.int (1 + (k : Int)))])] := by
        have el : lo (clB cs) (k + 1) = lo (clB cs) k := by conv => lhs; unfold lo
                                                            rw [if_pos z]
        have ep : pre (clB cs) (k + 1) = pre (clB cs) k := by conv => lhs; unfold pre
                                                              rw [if_pos z]
        unfold rl ruO
        rw [List.map_append, ep, el, iv_succ (lo_le _ _), es]
        show _ ++ [O.lst ((cI (_ ++ [k + 1])).map O.sh)] = _
        rw [cI_app, List.map_append]
        rfl
      rw [e1, e2]
      exact t
    | false =>
      rw [z] at e
      have t := ru_no (a := a) (s := 1 + (k : Int)) (os := ruO (rl (clB cs) k)) e (by unfold ruO rl; simp; have := pre_len (clB cs) k; omega)
      have e2 : ruO (rl (clB cs) (k + 1)) = ruO (rl (clB cs) k) ++ [O.lst [O.sh (.int (1 + (k : Int)))]] := by
        have el : lo (clB cs) (k + 1) = k + 1 := by conv => lhs; unfold lo
                                                    rw [if_neg (by rw [z]; decide)]
        have ep : pre (clB cs) (k + 1) = pre (clB cs) k ++ [iv (lo (clB cs) k) k] := by conv => lhs; unfold pre
                                                                                        rw [if_neg (by rw [z]; decide)]
        conv => lhs; unfold rl
        rw [ep, el, iv_self, es]
        unfold ruO rl
        rw [List.map_append]
        rfl
      rw [e2]
      exact t
  rw [rngD_len] at this
  exact this
theorem runs0 {L : Int} {d : D} {rs : List O} (ir : inR L = true) (lp : forL (gN 3) ruB (rngD 1 (L - 1).toNat) [some (.sh (.int L)), some (.sh d), some (.lst [.lst [.sh (.int 0)]]), none] = .ok .nx [some (.sh (.int L)), some (.sh d), some (.lst rs), none]) : C_l_runs.run [.sh (.int L), .sh d] = .ok (.lst rs) [] := by
  refine run_rt (s2 := [some (.sh (.int L)), some (.sh d), none, none]) (s3 := [some (.sh (.int L)), some (.sh d), none, none]) ?_ rfl
  have i1 : TX.inR 1 = true := by decide
  rw [show (L - 1).toNat = L.toNat - 1 by omega] at lp
  unfold ruB at lp
  unfold fb_l_runs
  generalize sEnd [3] _ = body at lp ⊢
  simp [ir, i1, lp]
theorem runs {cs : List Nat} {n : Nat} (hn : n ≤ 12) : C_l_runs.run [.sh (.int (n : Int)), .sh (.lst (cI cs))] = .ok (.lst (ruO (rl (clB cs) (n - 1)))) [] := by
  refine runs0 (inR_of (by omega) (by omega)) ?_
  rw [show ((n : Int) - 1).toNat = n - 1 by omega]
  exact runs_loop hn
/-! ### moved -/
def mvE : FE := eCall C_l_top (rV (eVar 0) (rV (eVar 4) rN))
def mvT : FT := tR (eB (eOp oIn (eVar 2) (eVar 4))) (eB (eOp oIn (eOp oAdd (eVar 2) (eK (.int 1))) (eVar 4)))
theorem lc_pick {own : List Nat} {fg : FG} {ft : FT} {fe : FE} {s : Sl} (p : D → Bool) (f : D → O) : ∀ (ds : List D) (acc : List O), acc.length + ds.length ≤ 1000 → (∀ d ∈ ds, (fg (.sh d) s).bind (fun _ s1 => (ft s1).bind fun b s2 => if b = true then (fe s2).bind fun o s3 => .ok (some o) (wipeS s3 own) else .ok none (wipeS s2 own)) = .ok (if p d = true then some (f d) else none) s) → lcL own fg ft fe ds acc s = .ok (.lst (acc ++ (ds.filter p).map f)) s
  | [], acc, _, _ => by simp [lcL]
  | d :: ds, acc, hl, h => by
    rw [List.length_cons] at hl
    have h1 := h d List.mem_cons_self
    have ih := fun acc' q => lc_pick (own := own) (fg := fg) (ft := ft) (fe := fe) (s := s) p f ds acc' q fun d hd => h d (List.mem_cons_of_mem _ hd)
    show (fg (.sh d) s).bind _ = _
    cases hg : fg (.sh d) s with
    | bad => rw [hg] at h1; cases h1
    | ex x s => rw [hg] at h1; cases h1
    | ok u s1 =>
      rw [hg] at h1
      dsimp only [Rs.bind] at h1
      show (ft s1).bind _ = _
      cases ht : ft s1 with
      | bad => rw [ht] at h1; cases h1
      | ex x s => rw [ht] at h1; cases h1
      | ok b s2 =>
        rw [ht] at h1
        dsimp only at h1
        show (if b = true then _ else _) = _
        cases b with
        | false =>
          rw [if_neg Bool.false_ne_true] at h1 ⊢
          simp only [Rs.ok.injEq] at h1
          obtain ⟨e1, e2⟩ := h1
          have pf : p d = false := by
            cases z : p d with
            | false => rfl
            | true => rw [z, if_pos rfl] at e1; cases e1
          rw [e2, ih acc (by omega), List.filter_cons_of_neg (by rw [pf]; decide)]
        | true =>
          rw [if_pos rfl] at h1 ⊢
          cases hq : fe s2 with
          | bad => rw [hq] at h1; cases h1
          | ex x s => rw [hq] at h1; cases h1
          | ok o s3 =>
            rw [hq] at h1
            dsimp only [Rs.bind] at h1
            simp only [Rs.ok.injEq] at h1
            obtain ⟨e1, e2⟩ := h1
            have pt : p d = true := by
              cases z : p d with
              | true => rfl
              | false => rw [z, if_neg Bool.false_ne_true] at e1; cases e1
            rw [pt, if_pos rfl] at e1
            cases e1
            show (if acc.length < 100000 then _ else _) = _
            rw [if_pos (by omega), e2, ih _ (by rw [List.length_append]; simp; omega), List.filter_cons_of_pos pt, List.append_assoc]
            rfl
end K70
end

section
namespace K70
open PySem PySem.Spec PyProof.Rows L2 TX
def mvP (c : Nat) (d : D) : Bool := ((inB (.int (c : Int)) d).getD false) || ((inB (.int ((c : Int) + 1)) d).getD false)
theorem mvP_cI (c : Nat) (r : List Nat) : mvP c (.lst (cI r)) = hasC c r := by
  unfold mvP
  rw [in_cI r (c : Int) c rfl, in_cI r ((c : Int) + 1) (c + 1) (by omega)]
  rfl
theorem mv_turn {row d : D} {a : Option O} {c : Int} {b1 b2 : Bool} {t : O} (e1 : inB (.int c) d = some b1) (e2 : inB (.int (c + 1)) d = some b2) (ht : (b1 || b2) = true → C_l_top.run [.sh row, .sh d] = .ok t []) :
    (gN 4 (.sh d) [some (.sh row), a, some (.sh (.int c)), none, none]).bind (fun _ s1 => (mvT s1).bind fun b s2 => if b = true then (mvE s2).bind fun o s3 => .ok (some o) (wipeS s3 [4]) else .ok none (wipeS s2 [4])) = .ok (if (b1 || b2) = true then some t else none) [some (.sh row), a, some (.sh (.int c)), none, none] := by
  unfold mvT mvE
  cases b1 with
  | true =>
    have := ht rfl
    simp [e1, this]
  | false =>
    cases b2 with
    | true =>
      have := ht rfl
      simp [e1, e2, this]
    | false => simp [e1, e2]
theorem moved0 {row d : D} {c L x y s t lw hg : Int} {rs : List O} {rd : List D} (el : lenD row = some (.sh (.int L))) (er : C_l_runs.run [.sh (.int L), .sh d] = .ok (.lst rs) []) (erd : toDs rs = rd) (lc : lcL [4] (gN 4) mvT mvE rd [] [some (.sh row), some (.sh d), some (.sh (.int c)), none, none] = .ok (.lst [.sh (.int s), .sh (.int t)]) [some (.sh row), some (.sh d), some (.sh (.int c)), none, none])
    (es : ixD row (.int s) = some (.sh (.int x))) (et : ixD row (.int t) = some (.sh (.int y))) (hz : (x < y ∧ lw = s ∧ hg = t) ∨ (¬ x < y ∧ lw = t ∧ hg = s)) : C_l_moved.run [.sh row, .sh d, .sh (.int c)] = .ok (.sh (.tup [.int lw, .int hg])) [] := by
  have i0 : ixD (.lst [.int s, .int t]) (.int 0) = some (.sh (.int s)) := by simp
  have i1 : ixD (.lst [.int s, .int t]) (.int 1) = some (.sh (.int t)) := by simp
  refine run_rt (s2 := [some (.sh row), some (.sh d), some (.sh (.int c)), some (.sh (.lst [.int s, .int t])), none]) (s3 := [some (.sh row), some (.sh d), some (.sh (.int c)), some (.sh (.lst [.int s, .int t])), none]) ?_ rfl
  unfold fb_l_moved
  unfold mvT mvE at lc
  generalize (tR (eB (eOp oIn (eVar 2) (eVar 4))) _) = tt at lc ⊢
  generalize (eCall C_l_top _) = ee at lc ⊢
  rcases hz with ⟨z, rfl, rfl⟩ | ⟨z, rfl, rfl⟩
  · simp [el, er, erd, lc, es, et, i0, i1, z, -ixD_r]
  · simp [el, er, erd, lc, es, et, i0, i1, z, -ixD_r]
section
variable {row : D} {n : Nat} {v : Nat → Int} (R : RowV row n v)
include R
theorem tops {cs : List Nat} {O : Nat → Nat} {h : Nat → Option Nat} (I : Inv n v (fun x => x ∈ cs) O h) {c hh : Nat} (hc : c + 1 < n) (nc : c ∉ cs) (h1 : c + 1 ≤ hh) (h2 : hh < n) (h3 : ∀ x, c + 1 ≤ x → x < hh → clB cs x = true) (h4 : hh < n - 1 → clB cs hh = false) (hn : n ≤ 12) :
    C_l_top.run [.sh row, .sh (.lst (cI (iv (lo (clB cs) c) c)))] = .ok (.sh (.int (O c : Nat))) [] ∧ C_l_top.run [.sh row, .sh (.lst (cI (iv (c + 1) hh)))] = .ok (.sh (.int (O (c + 1) : Nat))) [] := by
  have cb : ∀ x, clB cs x = true ↔ x ∈ cs := fun x => by unfold clB; exact decide_eq_true_iff
  have o1 := I.lt c (by omega)
  have o2 := I.lt (c + 1) hc
  have j1 := I.jn c (by omega)
  have j2 := I.jn (c + 1) hc
  have len : ∀ a b, b < n → (iv a b).length ≤ 1000 := fun a b hb => by unfold iv; simp; omega
  constructor
  · refine top R (fun x hx => ?_) (len _ _ (by omega)) (mem_iv.mpr ⟨?_, ?_⟩) fun y hy => ?_
    · have := (mem_iv.mp hx).2
      omega
    · refine Classical.byContradiction fun z => ?_
      have l0 : 0 < lo (clB cs) c := by omega
      have e := lo_end (clB cs) c l0
      have l1 := lo_le (clB cs) c
      have q := j1 (lo (clB cs) c - 1) (by omega) (by omega)
      rw [(cb _).mpr q] at e
      cases e
    · refine Classical.byContradiction fun z => ?_
      exact nc (j1 c (by omega) (by omega))
    · obtain ⟨y1, y2⟩ := mem_iv.mp hy
      exact I.mx c y (by omega) (by omega) fun x x1 x2 => (cb x).mp (lo_cl (clB cs) c x (by omega) (by omega))
  · refine top R (fun x hx => ?_) (len _ _ h2) (mem_iv.mpr ⟨?_, ?_⟩) fun y hy => ?_
    · have := (mem_iv.mp hx).2
      omega
    · refine Classical.byContradiction fun z => ?_
      exact nc (j2 c (by omega) (by omega))
    · refine Classical.byContradiction fun z => ?_
      have q := j2 hh (by omega) (by omega)
      have e := h4 (by omega)
      rw [(cb _).mpr q] at e
      cases e
    · obtain ⟨y1, y2⟩ := mem_iv.mp hy
      exact I.mx (c + 1) y hc (by omega) fun x x1 x2 => (cb x).mp (h3 x (by omega) (by omega))
theorem moved {cs : List Nat} {W : Nat → Nat} {h : Nat → Option Nat} (I : Inv n v (fun x => x ∈ cs) W h) {c : Nat} (hc : c + 1 < n) (nc : c ∉ cs) (hn : n ≤ 12) :
    C_l_moved.run [.sh row, .sh (.lst (cI cs)), .sh (.int c)] = .ok (.sh (.tup [.int (lowOf v W c : Nat), .int (hiOf v W c : Nat)])) [] := by
  classical
  have ncb : clB cs c = false := by unfold clB; exact decide_eq_false nc
  obtain ⟨hh, h1, h2, h3, h4, h5, _⟩ := rl_filt ncb (n - 1 - (c + 1))
  rw [show c + 1 + (n - 1 - (c + 1)) = n - 1 by omega] at h2 h4 h5
  obtain ⟨t1, t2⟩ := tops R I hc nc h1 (by omega) h3 h4 hn
  have erd : toDs (ruO (rl (clB cs) (n - 1))) = (rl (clB cs) (n - 1)).map fun r => D.lst (cI r) := by
    unfold ruO
    rw [toDs_gen]
    refine List.map_congr_left fun r _ => ?_
    show D.lst (toDs ((cI r).map O.sh)) = _
    rw [toDs_map]
  have lc := lc_pick (own := [4]) (fg := gN 4) (ft := mvT) (fe := mvE) (s := [some (.sh row), some (.sh (.lst (cI cs))), some (.sh (.int (c : Int))), none, none]) (mvP c) (fun d => if d = .lst (cI (iv (lo (clB cs) c) c)) then O.sh (.int (W c : Nat)) else O.sh (.int (W (c + 1) : Nat))) ((rl (clB cs) (n - 1)).map fun r => D.lst (cI r)) [] (by have := pre_len (clB cs) (n - 1); unfold rl; simp; omega) fun d hd => by
    obtain ⟨r, hr, rfl⟩ := List.mem_map.mp hd
    have g : ∀ (i : Int) (k : Nat), i = (k : Int) → inB (.int i) (.lst (cI r)) = some ((inB (.int i) (.lst (cI r))).getD false) := fun i k e => by
      rw [in_cI r i k e]
      rfl
    refine mv_turn (g (c : Int) c rfl) (g ((c : Int) + 1) (c + 1) (by omega)) fun hb => ?_
    have hb2 : hasC c r = true := by
      rw [← mvP_cI]
      unfold mvP
      rw [in_cI r (c : Int) c rfl, in_cI r ((c : Int) + 1) (c + 1) (by omega)] at hb ⊢
      exact hb
    have hf : r ∈ (rl (clB cs) (n - 1)).filter (hasC c) := List.mem_filter.mpr ⟨hr, hb2⟩
    rw [h5] at hf
    rcases List.mem_cons.mp hf with rfl | hf
    · rw [if_pos rfl]
      exact t1
    · rw [List.mem_singleton] at hf
      subst hf
      rw [if_neg]
      · exact t2
      · intro z
        have z2 : cI (iv (c + 1) hh) = cI (iv (lo (clB cs) c) c) := by injection z
        have a : D.int ((c + 1 : Nat) : Int) ∈ cI (iv (c + 1) hh) := List.mem_map.mpr ⟨c + 1, mem_iv.mpr ⟨Nat.le_refl _, h1⟩, rfl⟩
        rw [z2] at a
        obtain ⟨x, x1, x2⟩ := List.mem_map.mp a
        have := (mem_iv.mp x1).2
        injection x2 with x2
        omega
  have ef : (((rl (clB cs) (n - 1)).map fun r => D.lst (cI r)).filter (mvP c)) = [.lst (cI (iv (lo (clB cs) c) c)), .lst (cI (iv (c + 1) hh))] := by
    rw [List.filter_map]
    have : (mvP c ∘ fun r => D.lst (cI r)) = hasC c := by funext r; exact mvP_cI c r
    rw [this, h5]
    rfl
  rw [ef] at lc
  have ne : ¬ (D.lst (cI (iv (c + 1) hh)) = D.lst (cI (iv (lo (clB cs) c) c))) := by
    intro z
    have z2 : cI (iv (c + 1) hh) = cI (iv (lo (clB cs) c) c) := by injection z
    have a : D.int ((c + 1 : Nat) : Int) ∈ cI (iv (c + 1) hh) := List.mem_map.mpr ⟨c + 1, mem_iv.mpr ⟨Nat.le_refl _, h1⟩, rfl⟩
    rw [z2] at a
    obtain ⟨x, x1, x2⟩ := List.mem_map.mp a
    have := (mem_iv.mp x1).2
    injection x2 with x2
    omega
  simp only [List.map_cons, List.map_nil, if_pos, if_neg ne, List.nil_append] at lc
  obtain ⟨ab, lv⟩ := I.ends R.inj hc nc
  refine moved0 R.el (runs hn) erd lc (R.ix _ (W c) rfl (I.lt c (by omega))) (R.ix _ (W (c + 1)) rfl (I.lt (c + 1) hc)) ?_
  rcases ab with ⟨a, b⟩ | ⟨a, b⟩
  · rw [a, b] at lv
    exact .inl ⟨lv, by rw [a], by rw [b]⟩
  · rw [a, b] at lv
    exact .inr ⟨by omega, by rw [a], by rw [b]⟩
end
end K70
end

section
namespace K70
open PySem PySem.Spec PyProof.Rows L2 TX
/-! ### a tour's end -/
def go (v : Nat → Int) : List Nat → (Nat → Nat) × (Nat → Option Nat) → (Nat → Nat) × (Nat → Option Nat)
  | [], s => s
  | c :: cs, s => go v cs (stO v s.1 c, stH v s.1 s.2 c)
theorem go_app (v : Nat → Int) : ∀ (a b : List Nat) (s : (Nat → Nat) × (Nat → Option Nat)), go v (a ++ b) s = go v b (go v a s)
  | [], b, s => rfl
  | c :: cs, b, s => go_app v cs b _
def st0 : (Nat → Nat) × (Nat → Option Nat) := (id, fun _ => none)
theorem Inv.cl {n : Nat} {v : Nat → Int} {cl cm : Nat → Prop} {O : Nat → Nat} {h : Nat → Option Nat} (I : Inv n v cl O h) (e : ∀ x, cl x ↔ cm x) : Inv n v cm O h := by
  have : cl = cm := funext fun x => propext (e x)
  rw [← this]
  exact I
theorem inv_go {n : Nat} {v : Nat → Int} (inj : ∀ x y, x < n → y < n → v x = v y → x = y) {tour : List Nat} (nd : tour.Nodup) (hc : ∀ c ∈ tour, c + 1 < n) : ∀ k, k ≤ tour.length → Inv n v (fun x => x ∈ tour.take k) (go v (tour.take k) st0).1 (go v (tour.take k) st0).2
  | 0, _ => by
    refine (Inv.start (n := n) (v := v)).cl fun x => ?_
    simp
  | k + 1, hk => by
    have ih := inv_go inj nd hc k (by omega)
    have g : tour[k]? = some tour[k] := List.getElem?_eq_getElem (by omega)
    have et : tour.take (k + 1) = tour.take k ++ [tour[k]] := by rw [List.take_add_one, g]; rfl
    have nin : tour[k] ∉ tour.take k := by
      rw [List.nodup_iff_pairwise_ne] at nd
      have pw := List.pairwise_iff_getElem.mp nd
      intro z
      obtain ⟨i, hi, e⟩ := List.getElem_of_mem z
      rw [List.length_take] at hi
      rw [List.getElem_take] at e
      exact pw i k (by omega) (by omega) (by omega) e
    have nx := ih.next inj (c := tour[k]) (hc _ (List.getElem_mem _)) nin
    have nx2 := nx.cl (cm := fun x => x ∈ tour.take k ++ [tour[k]]) fun x => by rw [List.mem_append, List.mem_singleton]
    rw [← et] at nx2
    have e2 : go v (tour.take (k + 1)) st0 = (stO v (go v (tour.take k) st0).1 tour[k], stH v (go v (tour.take k) st0).1 (go v (tour.take k) st0).2 tour[k]) := by rw [et, go_app]; rfl
    rw [e2]
    exact nx2
def hD (h : Nat → Option Nat) (i : Nat) : D := match h i with
  | some k => .int (k : Int)
  | none => .non
def arr (n : Nat) (h : Nat → Option Nat) : List D := (List.range n).map (hD h)
theorem arr_len (n : Nat) (h : Nat → Option Nat) : (arr n h).length = n := by unfold arr; simp
theorem arr_get {n i : Nat} {h : Nat → Option Nat} (hi : i < n) : (arr n h)[i]? = some (hD h i) := by
  unfold arr
  rw [List.getElem?_map, List.getElem?_range hi]
  rfl
theorem arr_set {n a b : Nat} {h : Nat → Option Nat} (ha : a < n) : (arr n h).set a (.int (b : Int)) = arr n (fun i => if i = a then some b else h i) := by
  apply List.ext_getElem?
  intro i
  rw [List.getElem?_set]
  by_cases z : i < n
  · rw [arr_get z, arr_get z]
    by_cases e : a = i
    · subst e
      rw [if_pos rfl, if_pos (by rw [arr_len]; exact ha)]
      have : hD (fun i => if i = a then some b else h i) a = .int (b : Int) := by unfold hD; simp
      rw [this]
    · rw [if_neg e]
      have e' : ¬ i = a := fun q => e q.symm
      have : hD (fun i => if i = a then some b else h i) i = hD h i := by unfold hD; simp [e']
      rw [this]
  · rw [List.getElem?_eq_none (by rw [arr_len]; omega), List.getElem?_eq_none (by rw [arr_len]; omega)]
    rw [if_neg (by omega)]
theorem arr_none (n : Nat) : arr n (fun _ => none) = List.replicate n D.non := by
  unfold arr
  have : hD (fun _ => none) = fun _ => D.non := rfl
  rw [this, List.map_const', List.length_range]
theorem ixN_nat {n j : Nat} (h : j < n) : ixN n (j : Int) = some j := by
  unfold ixN
  rw [if_pos (by omega), if_pos (by omega)]
  rfl
theorem cut_take {α : Type} (xs : List α) (k : Nat) : TX.cutD xs none (some (k : Int)) = xs.take k := by
  unfold TX.cutD HT.sIx
  dsimp only
  rw [if_neg (by omega), List.drop_zero, Nat.sub_zero, Int.toNat_natCast]
  rw [← List.take_eq_take_min]
def nsB : FS := (sEnd [3, 4, 5] (sSeq (sAsg (eCall C_l_moved (rV (eVar 0) (rV (eSl (eVar 1) pN (pS (eVar 3))) (rV (eOp oIx (eVar 1) (eVar 3)) rN)))) (gT 2 (gsC (gN 4) (gsC (gN 5) gsN))))
  (sAsg (eVar 5) (gSt 2 (eVar 4)))))
theorem ns_turn {row : D} {ds ts : List D} {k c a b : Int} {j : Nat} {os : List O} (e1 : TX.cutD ds none (some k) = ts) (e2 : ixD (.lst ds) (.int k) = some (.sh (.int c))) (e3 : C_l_moved.run [.sh row, .sh (.lst ts), .sh (.int c)] = .ok (.sh (.tup [.int a, .int b])) []) (e4 : ixN os.length a = some j) :
    (gN 3 (.sh (.int k)) [some (.sh row), some (.sh (.lst ds)), some (.lst os), none, none, none]).bind (fun _ s => nsB s) = .ok .nx [some (.sh row), some (.sh (.lst ds)), some (.lst (os.set j (.sh (.int b)))), none, none, none] := by
  have k3 : toDs (List.map O.sh ts) = ts := toDs_map _
  unfold nsB
  simp [cutO, e1, e2, e3, e4, k3, -ixD_r]
theorem rep_flat (k : Nat) : (List.replicate k [D.non]).flatten = List.replicate k D.non := by
  induction k with
  | zero => rfl
  | succ k ih => rw [List.replicate_succ, List.flatten_cons, ih, List.replicate_succ]; rfl
theorem mulD_l {ds : List D} {k : Int} (h1 : k ≤ 100000) (h2 : -100000 ≤ k) (h3 : ds.length * k.toNat ≤ 100000) : mulD (.lst ds) (.int k) = some (.lst ((List.replicate k.toNat ds).flatten.map O.sh)) := by
  unfold mulD
  exact if_pos ⟨h1, h2, h3⟩
theorem mul_non {L : Int} (h0 : 0 ≤ L) (h1 : L ≤ 12) : mulD (.lst [.non]) (.int L) = some (.lst ((List.replicate L.toNat D.non).map O.sh)) := by
  have l1 : ([D.non] : List D).length = 1 := rfl
  generalize hx : ([D.non] : List D) = xs at l1
  rw [mulD_l (by omega) (by omega) (by rw [l1, Nat.one_mul]; omega), ← hx, rep_flat]
theorem seq_nx {a b : FS} {s s1 : Sl} {r : Rs Sl Fl} (h : a s = .ok .nx s1) (g : b s1 = r) : sSeq a b s = r := by
  rw [sSeq_r, h]
  exact g
theorem nest0 {row : D} {ds nn : List D} {L m : Int} {os : List O} {fin : List D} (el : lenD row = some (.sh (.int L))) (em : lenD (.lst ds) = some (.sh (.int m))) (mu : mulD (.lst [.non]) (.int L) = some (.lst (nn.map O.sh))) (ir : TX.inR m = true) (lp : forL (gN 3) nsB (rngD 0 m.toNat) [some (.sh row), some (.sh (.lst ds)), some (.lst (nn.map O.sh)), none, none, none] = .ok .nx [some (.sh row), some (.sh (.lst ds)), some (.lst os), none, none, none]) (hf : toDs os = fin) : C_l_nest.run [.sh row, .sh (.lst ds)] = .ok (.sh (.tup fin)) [] := by
  refine run_rt (s2 := [some (.sh row), some (.sh (.lst ds)), some (.sh (.lst fin)), none, none, none]) (s3 := [some (.sh row), some (.sh (.lst ds)), some (.sh (.lst fin)), none, none, none]) ?_ rfl
  unfold nsB at lp
  unfold fb_l_nest
  generalize sEnd [3, 4, 5] _ = body at lp ⊢
  have e1 : eOp oMul (eLst (aC (eK .non) aN)) (eCB (c1 lenD) (aC (eVar 0) aN)) [some (.sh row), some (.sh (.lst ds)), none, none, none, none] = .ok (.lst (nn.map O.sh)) [some (.sh row), some (.sh (.lst ds)), none, none, none, none] := by simp [el, mu]
  generalize (eOp oMul _ _) = f1 at e1 ⊢
  have h1 : sAsg f1 (gN 2) [some (.sh row), some (.sh (.lst ds)), none, none, none, none] = .ok .nx [some (.sh row), some (.sh (.lst ds)), some (.lst (nn.map O.sh)), none, none, none] := by simp [e1]
  have h2 : sFor (iR1 (aC (eCB (c1 lenD) (aC (eVar 1) aN)) aN)) (gN 3) body [some (.sh row), some (.sh (.lst ds)), some (.lst (nn.map O.sh)), none, none, none] = .ok .nx [some (.sh row), some (.sh (.lst ds)), some (.lst os), none, none, none] := by simp [em, ir, lp, -lenD_lst]
  have ht : tupleD (.lst fin) = some (.sh (.tup fin)) := rfl
  have h3 : sRet (eCB (c1 tupleD) (aC (eVar 2) aN)) [some (.sh row), some (.sh (.lst ds)), some (.lst os), none, none, none] = .ok (.rt (.sh (.tup fin))) [some (.sh row), some (.sh (.lst ds)), some (.sh (.lst fin)), none, none, none] := by simp [hf, ht]
  exact seq_nx h1 (seq_nx h2 h3)
theorem nest {row : D} {n : Nat} {v : Nat → Int} (R : RowV row n v) {tour : List Nat} (nd : tour.Nodup) (hc : ∀ c ∈ tour, c + 1 < n) (hn : n ≤ 12) (hl : tour.length ≤ 100) : C_l_nest.run [.sh row, .sh (.lst (cI tour))] = .ok (.sh (.tup (arr n (go v tour st0).2))) [] := by
  have cl : (cI tour).length = tour.length := by unfold cI; rw [List.length_map]
  have lp := forL_st (fg := gN 3) (fb := nsB) (fun k => [some (.sh row), some (.sh (.lst (cI tour))), some (.lst ((arr n (go v (tour.take k) st0).2).map O.sh)), none, none, none]) (rngD 0 tour.length) fun k d hd => by
    obtain ⟨rfl, hk⟩ := rngD_get hd
    rw [Int.zero_add]
    have I := inv_go R.inj nd hc k (by omega)
    have g : tour[k]? = some tour[k] := List.getElem?_eq_getElem hk
    have et : tour.take (k + 1) = tour.take k ++ [tour[k]] := by rw [List.take_add_one, g]; rfl
    have nin : tour[k] ∉ tour.take k := by
      have pw := List.pairwise_iff_getElem.mp nd
      intro z
      obtain ⟨i, hi, e⟩ := List.getElem_of_mem z
      rw [List.length_take] at hi
      rw [List.getElem_take] at e
      exact pw i k (by omega) (by omega) (by omega) e
    have hk1 := hc _ (List.getElem_mem hk)
    have mv := moved R I hk1 nin hn
    obtain ⟨ab, lv⟩ := I.ends R.inj hk1 nin
    have lt : lowOf v (go v (tour.take k) st0).1 tour[k] < n := by rcases ab with ⟨a, _⟩ | ⟨a, _⟩ <;> (rw [a]; exact I.lt _ (by omega))
    have t := ns_turn (row := row) (ds := cI tour) (ts := cI (tour.take k)) (k := (k : Int)) (c := (tour[k] : Nat)) (os := (arr n (go v (tour.take k) st0).2).map O.sh) (by rw [cut_take]; unfold cI; rw [List.map_take]) (by rw [ixD_r, items_lst]; dsimp only; rw [atI_nat (show (cI tour)[k]? = some (.int (tour[k] : Nat)) by unfold cI; rw [List.getElem?_map, g]; rfl)]; rfl) mv (ixN_nat (by rw [List.length_map, arr_len]; exact lt))
    rw [t, et, go_app]
    show Rs.ok Fl.nx _ = Rs.ok Fl.nx [_, _, some (O.lst ((arr n (stH v (go v (tour.take k) st0).1 (go v (tour.take k) st0).2 tour[k])).map O.sh)), _, _, _]
    rw [show (O.sh (.int (hiOf v (go v (tour.take k) st0).1 tour[k] : Nat))) = O.sh (D.int ((hiOf v (go v (tour.take k) st0).1 tour[k] : Nat) : Int)) from rfl, ← List.map_set, arr_set lt]
    rfl
  rw [rngD_len] at lp
  refine nest0 (L := (n : Int)) (m := (tour.length : Nat)) R.el (by rw [lenD_lst, cl]) (mul_non (by omega) (by omega)) (inR_of (by omega) (by omega)) ?_ (toDs_map _)
  rw [Int.toNat_natCast, Int.toNat_natCast, ← arr_none]
  rw [List.take_length] at lp
  exact lp
end K70
end

section
namespace K70
open PySem PySem.Spec PyProof.Rows L2 TX
theorem filt_le {α : Type} {p q : α → Bool} (h : ∀ x, p x = true → q x = true) : ∀ l : List α, (l.filter p).length ≤ (l.filter q).length
  | [] => Nat.le_refl _
  | x :: l => by
    have ih := filt_le h l
    cases a : p x with
    | true =>
      rw [List.filter_cons_of_pos a, List.filter_cons_of_pos (h x a), List.length_cons, List.length_cons]
      omega
    | false =>
      rw [List.filter_cons_of_neg (by rw [a]; decide)]
      cases b : q x with
      | true => rw [List.filter_cons_of_pos b, List.length_cons]; omega
      | false => rw [List.filter_cons_of_neg (by rw [b]; decide)]; exact ih
theorem filt_lt {α : Type} {p q : α → Bool} (h : ∀ x, p x = true → q x = true) : ∀ (l : List α) (y : α), y ∈ l → q y = true → p y = false → (l.filter p).length < (l.filter q).length
  | x :: l, y, hy, hq, hp => by
    have ih := filt_le h l
    rcases List.mem_cons.mp hy with rfl | hy
    · rw [List.filter_cons_of_neg (by rw [hp]; decide), List.filter_cons_of_pos hq, List.length_cons]
      omega
    · have ih2 := filt_lt h l y hy hq hp
      cases a : p x with
      | true =>
        rw [List.filter_cons_of_pos a, List.filter_cons_of_pos (h x a), List.length_cons, List.length_cons]
        omega
      | false =>
        rw [List.filter_cons_of_neg (by rw [a]; decide)]
        cases b : q x with
        | true => rw [List.filter_cons_of_pos b, List.length_cons]; omega
        | false => rw [List.filter_cons_of_neg (by rw [b]; decide)]; exact ih2
def meas (n : Nat) (v : Nat → Int) (i : Nat) : Nat := ((List.range n).filter fun x => decide (v i < v x)).length
theorem meas_le (n : Nat) (v : Nat → Int) (i : Nat) : meas n v i ≤ n := by
  unfold meas
  have := List.length_filter_le (fun x => decide (v i < v x)) (List.range n)
  rwa [List.length_range] at this
theorem meas_lt {n : Nat} {v : Nat → Int} {i k : Nat} (hk : k < n) (h : v i < v k) : meas n v k < meas n v i := by
  unfold meas
  refine filt_lt (fun x hx => ?_) _ k (List.mem_range.mpr hk) (decide_eq_true h) (decide_eq_false (by omega))
  have := of_decide_eq_true hx
  exact decide_eq_true (by omega)
/-- whoever is put over it, one after another -/
theorem chain_ex {n : Nat} {v : Nat → Int} {h : Nat → Option Nat} (up : ∀ i k, i < n → h i = some k → k < n ∧ Up v i k) : ∀ (m i : Nat), i < n → meas n v i ≤ m → ∃ l, Chain h i l ∧ l.length ≤ meas n v i ∧ l.Pairwise (fun a b => v a < v b) ∧ ∀ x ∈ l, x < n ∧ Up v i x
  | 0, i, hi, hm => by
    cases e : h i with
    | none => exact ⟨[], .stop e, Nat.zero_le _, List.Pairwise.nil, fun x hx => by cases hx⟩
    | some k =>
      obtain ⟨h1, h2⟩ := up i k hi e
      have := meas_lt h1 h2.lt
      omega
  | m + 1, i, hi, hm => by
    cases e : h i with
    | none => exact ⟨[], .stop e, Nat.zero_le _, List.Pairwise.nil, fun x hx => by cases hx⟩
    | some k =>
      obtain ⟨h1, h2⟩ := up i k hi e
      have lt := meas_lt h1 h2.lt
      obtain ⟨l, c, l1, l2, l3⟩ := chain_ex up m k h1 (by omega)
      refine ⟨k :: l, .step e c, by rw [List.length_cons]; omega, List.pairwise_cons.mpr ⟨fun x hx => (l3 x hx).2.lt, l2⟩, fun x hx => ?_⟩
      rcases List.mem_cons.mp hx with rfl | hx
      · exact ⟨h1, h2⟩
      · exact ⟨(l3 x hx).1, h2.trans (l3 x hx).2⟩
/-! ### climb, around -/
def clT : FT := tA (eB (eOp oNtN (eOp oIx (eVar 0) (eVar 1)) (eK .non))) (eB (eOp oLe (ePk 2 (eCB (c1 lenD) (aC (eVar 2) aN))) (eCB (c1 lenD) (aC (eVar 0) aN))))
def clS : FS := sSeq (sAsg (eOp oIx (eVar 0) (eVar 1)) (gN 1)) (sDrop (eM 2 mApp (aC (eVar 1) aN)))
theorem clT_go {a : D} {i k L : Int} {fd : List D} {m : Int} (e : ixD a (.int i) = some (.sh (.int k))) (el : lenD a = some (.sh (.int L))) (ef : lenD (.lst fd) = some (.sh (.int m))) (hl : m ≤ L) : clT [some (.sh a), some (.sh (.int i)), some (.lst (fd.map O.sh))] = .ok true [some (.sh a), some (.sh (.int i)), some (.lst (fd.map O.sh))] := by
  have k3 : toDs (List.map O.sh fd) = fd := toDs_map _
  unfold clT
  simp [e, el, ef, hl, k3, -ixD_r, -lenD_lst]
theorem clT_no {a : D} {i : Int} {o : Option O} (e : ixD a (.int i) = some (.sh .non)) : clT [some (.sh a), some (.sh (.int i)), o] = .ok false [some (.sh a), some (.sh (.int i)), o] := by
  unfold clT
  simp [e, -ixD_r]
theorem clS_go {a : D} {i k : Int} {fd : List D} (e : ixD a (.int i) = some (.sh (.int k))) (hl : fd.length < 100000) : clS [some (.sh a), some (.sh (.int i)), some (.lst (fd.map O.sh))] = .ok .nx [some (.sh a), some (.sh (.int k)), some (.lst ((fd ++ [D.int k]).map O.sh))] := by
  unfold clS
  simp [e, hl, -ixD_r]
theorem ix_arr {n i : Nat} {h : Nat → Option Nat} (hi : i < n) : ixD (.tup (arr n h)) (.int (i : Int)) = some (.sh (hD h i)) := by
  rw [ixD_r, items_tup]
  dsimp only
  rw [atI_nat (arr_get hi)]
  rfl
theorem climb_loop {n : Nat} {h : Nat → Option Nat} {i : Nat} {l : List Nat} (c : Chain h i l) : i < n → (∀ x ∈ l, x < n) → ∀ (fd : List Nat), fd.length + l.length ≤ n → n ≤ 12 → ∀ m, l.length < m → ∃ j : Nat, whL clT clS m [some (.sh (.tup (arr n h))), some (.sh (.int (i : Int))), some (.lst ((cI fd).map O.sh))] = .ok .nx [some (.sh (.tup (arr n h))), some (.sh (.int (j : Int))), some (.lst ((cI (fd ++ l)).map O.sh))] := by
  induction c with
  | stop e =>
    intro hi hx fd hl hn m hm
    obtain ⟨m, rfl⟩ : ∃ j, m = j + 1 := ⟨m - 1, by omega⟩
    rename_i i
    refine ⟨i, ?_⟩
    rw [List.append_nil]
    refine whL_stop (clT_no ?_)
    rw [ix_arr hi]
    unfold hD
    rw [e]
  | step e c ih =>
    intro hi hx fd hl hn m hm
    obtain ⟨m, rfl⟩ : ∃ j, m = j + 1 := ⟨m - 1, by omega⟩
    rename_i i k l
    rw [List.length_cons] at hl hm
    have ex : ixD (.tup (arr n h)) (.int (i : Int)) = some (.sh (.int (k : Int))) := by
      rw [ix_arr hi]
      unfold hD
      rw [e]
    have hk := hx k List.mem_cons_self
    obtain ⟨j, ej⟩ := ih hk (fun x q => hx x (List.mem_cons_of_mem _ q)) (fd ++ [k]) (by rw [List.length_append, List.length_singleton]; omega) hn m (by omega)
    refine ⟨j, ?_⟩
    have el : lenD (.tup (arr n h)) = some (.sh (.int (n : Int))) := by rw [lenD_tup, arr_len]
    have ef : lenD (.lst (cI fd)) = some (.sh (.int (fd.length : Int))) := by rw [lenD_lst]; unfold cI; rw [List.length_map]
    have ec : cI (fd ++ [k]) = cI fd ++ [D.int (k : Int)] := by rw [cI_app]; rfl
    rw [ec] at ej
    refine (whL_step (clT_go ex el ef (by omega)) (clS_go ex (by unfold cI; rw [List.length_map]; omega))).trans (ej.trans ?_)
    rw [List.append_assoc, List.singleton_append]
theorem climb0 {a : D} {i j : Int} {rs : List O} (lp : whL clT clS fuel [some (.sh a), some (.sh (.int i)), some (.lst [])] = .ok .nx [some (.sh a), some (.sh (.int j)), some (.lst rs)]) : C_l_climb.run [.sh a, .sh (.int i)] = .ok (.lst rs) [] := by
  refine run_rt (s2 := [some (.sh a), some (.sh (.int j)), none]) (s3 := [some (.sh a), some (.sh (.int j)), none]) ?_ rfl
  unfold clT clS at lp
  unfold fb_l_climb
  generalize (tA (eB (eOp oNtN _ _)) _) = tt at lp ⊢
  generalize (sSeq (sAsg (eOp oIx (eVar 0) (eVar 1)) (gN 1)) _) = bb at lp ⊢
  simp [sWh, lp]
theorem climb {n : Nat} {h : Nat → Option Nat} {i : Nat} {l : List Nat} (c : Chain h i l) (hi : i < n) (hx : ∀ x ∈ l, x < n) (hl : l.length ≤ n) (hn : n ≤ 12) : C_l_climb.run [.sh (.tup (arr n h)), .sh (.int (i : Int))] = .ok (.lst ((cI l).map O.sh)) [] := by
  obtain ⟨j, e⟩ := climb_loop c hi hx [] (by simpa using hl) hn fuel (fuel_big (by omega))
  exact climb0 e
def arT : FT := eB (eOp oNtN (eVar 4) (eK .non))
def arS : FS := sSeq (sDrop (eM 3 mApp (aC (eVar 4) aN))) (sAsg (eOp oIx (eVar 1) (eVar 4)) (gN 4))
theorem arT_go {r a p o : Option O} {k : Int} : arT [r, a, p, o, some (.sh (.int k))] = .ok true [r, a, p, o, some (.sh (.int k))] := by
  unfold arT
  simp
theorem arT_no {r a p o : Option O} : arT [r, a, p, o, some (.sh .non)] = .ok false [r, a, p, o, some (.sh .non)] := by
  unfold arT
  simp
theorem arS_go {r p : Option O} {a : D} {k : Int} {d : D} {fd : List D} (e : ixD a (.int k) = some (.sh d)) (hl : fd.length < 100000) : arS [r, some (.sh a), p, some (.lst (fd.map O.sh)), some (.sh (.int k))] = .ok .nx [r, some (.sh a), p, some (.lst ((fd ++ [D.int k]).map O.sh)), some (.sh d)] := by
  unfold arS
  simp [e, hl, -ixD_r]
theorem around_loop {n : Nat} {h : Nat → Option Nat} {r p : Option O} {i : Nat} {l : List Nat} (c : Chain h i l) : (∀ x ∈ l, x < n) → ∀ (fd : List Nat), fd.length + l.length ≤ 1000 → ∀ m, l.length < m → whL arT arS m [r, some (.sh (.tup (arr n h))), p, some (.lst ((cI fd).map O.sh)), some (.sh (hD h i))] = .ok .nx [r, some (.sh (.tup (arr n h))), p, some (.lst ((cI (fd ++ l)).map O.sh)), some (.sh .non)] := by
  induction c with
  | stop e =>
    intro hx fd hl m hm
    obtain ⟨m, rfl⟩ : ∃ j, m = j + 1 := ⟨m - 1, by omega⟩
    rename_i i
    have : hD h i = .non := by unfold hD; rw [e]
    rw [List.append_nil, this]
    exact whL_stop arT_no
  | step e c ih =>
    intro hx fd hl m hm
    obtain ⟨m, rfl⟩ : ∃ j, m = j + 1 := ⟨m - 1, by omega⟩
    rename_i i k l
    rw [List.length_cons] at hl hm
    have hk := hx k List.mem_cons_self
    have ih2 := ih (fun x q => hx x (List.mem_cons_of_mem _ q)) (fd ++ [k]) (by rw [List.length_append, List.length_singleton]; omega) m (by omega)
    have eh : hD h i = .int (k : Int) := by unfold hD; rw [e]
    have ec : cI (fd ++ [k]) = cI fd ++ [D.int (k : Int)] := by rw [cI_app]; rfl
    rw [ec] at ih2
    rw [eh]
    refine (whL_step arT_go (arS_go (ix_arr hk) (by unfold cI; rw [List.length_map]; omega))).trans (ih2.trans ?_)
    rw [List.append_assoc, List.singleton_append]
theorem around0 {row a d : D} {p L : Int} {rs : List O} (el : lenD row = some (.sh (.int L))) (h0 : 0 ≤ p) (h1 : p < L) (e : ixD a (.int p) = some (.sh d)) (lp : whL arT arS fuel [some (.sh row), some (.sh a), some (.sh (.int p)), some (.lst []), some (.sh d)] = .ok .nx [some (.sh row), some (.sh a), some (.sh (.int p)), some (.lst rs), some (.sh .non)]) : C_around.run [.sh row, .sh a, .sh (.int p)] = .ok (.lst rs) [] := by
  refine run_rt (s2 := [some (.sh row), some (.sh a), some (.sh (.int p)), none, some (.sh .non)]) (s3 := [some (.sh row), some (.sh a), some (.sh (.int p)), none, some (.sh .non)]) ?_ rfl
  unfold arT arS at lp
  unfold fb_around
  generalize (eB (eOp oNtN _ _)) = tt at lp ⊢
  generalize (sSeq (sDrop (eM 3 mApp _)) _) = bb at lp ⊢
  simp [check_place el h0 h1, e, sWh, lp, -ixD_r]
theorem around {row : D} {n : Nat} {v : Nat → Int} (R : RowV row n v) {h : Nat → Option Nat} {i : Nat} {l : List Nat} (c : Chain h i l) (hi : i < n) (hx : ∀ x ∈ l, x < n) (hl : l.length ≤ n) (hn : n ≤ 12) : C_around.run [.sh row, .sh (.tup (arr n h)), .sh (.int (i : Int))] = .ok (.lst ((cI l).map O.sh)) [] := by
  have e := around_loop (n := n) (r := some (.sh row)) (p := some (.sh (.int (i : Int)))) c hx [] (by simp; omega) fuel (fuel_big (by omega))
  exact around0 R.el (by omega) (by omega) (ix_arr hi) e
end K70
end

section
namespace K70
open PySem PySem.Spec PyProof.Rows L2 TX
/-! ### the deepest history -/
def dCond (v : Nat → Int) (n f l : Nat) : Prop := 0 < f ∧ (l = n - 1 ∨ v (f - 1) < v (l + 1))
instance (v : Nat → Int) (n f l : Nat) : Decidable (dCond v n f l) := by unfold dCond; exact inferInstance
def deep (v : Nat → Int) (n : Nat) : Nat → Nat → Nat → List Nat
  | 0, _, _ => []
  | k + 1, f, l => if dCond v n f l then (f - 1) :: deep v n k (f - 1) l else l :: deep v n k f (l + 1)
theorem deep_len (v : Nat → Int) (n : Nat) : ∀ k f l, (deep v n k f l).length = k
  | 0, _, _ => rfl
  | k + 1, f, l => by
    unfold deep
    split <;> rw [List.length_cons, deep_len v n k]
theorem deep_perm (v : Nat → Int) (n : Nat) : ∀ k f l, f ≤ l → k + (l - f) = n - 1 → l < n → (deep v n k f l).Perm (List.range f ++ (List.range (n - 1 - l)).map fun i => l + i)
  | 0, f, l, h1, h2, h3 => by
    have : f = 0 := by omega
    subst this
    rw [show n - 1 - l = 0 by omega]
    exact List.Perm.refl _
  | k + 1, f, l, h1, h2, h3 => by
    unfold deep
    by_cases z : dCond v n f l
    · rw [if_pos z]
      obtain ⟨z1, _⟩ := z
      obtain ⟨g, rfl⟩ : ∃ g, f = g + 1 := ⟨f - 1, by omega⟩
      rw [show g + 1 - 1 = g by omega, List.range_succ, List.append_assoc]
      have ih := deep_perm v n k g l (by omega) (by omega) h3
      exact (ih.cons g).trans List.perm_middle.symm
    · rw [if_neg z]
      have hl : l < n - 1 := by
        refine Classical.byContradiction fun w => z ⟨by omega, .inl (by omega)⟩
      have ih := deep_perm v n k f (l + 1) (by omega) (by omega) (by omega)
      have e : (List.range (n - 1 - l)).map (fun i => l + i) = l :: (List.range (n - 1 - (l + 1))).map fun i => l + 1 + i := by
        rw [show n - 1 - l = (n - 1 - (l + 1)) + 1 by omega, List.range_succ_eq_map, List.map_cons, List.map_map]
        congr 1
        refine List.map_congr_left fun i _ => ?_
        show l + (i + 1) = l + 1 + i
        omega
      rw [e]
      exact (ih.cons l).trans List.perm_middle.symm
theorem deep_all (v : Nat → Int) {n p : Nat} (hp : p < n) : (deep v n (n - 1) p p).Perm (List.range (n - 1)) := by
  have := deep_perm v n (n - 1) p p (Nat.le_refl _) (by omega) hp
  rw [show n - 1 = p + (n - 1 - p) by omega, List.range_add]
  rw [show n - 1 = p + (n - 1 - p) by omega] at this
  rw [show p + (n - 1 - p) - p = n - 1 - p by omega] at this
  exact this
theorem Inv.ext {n : Nat} {v : Nat → Int} (inj : ∀ x y, x < n → y < n → v x = v y → x = y) {cl : Nat → Prop} {O : Nat → Nat} {h : Nat → Option Nat} (I : Inv n v cl O h) {c : Nat} (hc : c + 1 < n) (nc : ¬ cl c) : ∀ i k, h i = some k → stH v O h c i = some k := fun i k e => by
  obtain ⟨ab, lv⟩ := I.ends inj hc nc
  have n1 : h (lowOf v O c) = none := by rcases ab with ⟨a, _⟩ | ⟨a, _⟩ <;> (rw [a]; exact I.hn _ (by omega))
  unfold stH
  rw [if_neg fun z => by rw [z, n1] at e; cases e]
  exact e
theorem deep_path {n : Nat} {v : Nat → Int} (inj : ∀ x y, x < n → y < n → v x = v y → x = y) {p q : Nat} (hq : q < n) (U : Up v p q) : ∀ (k f l : Nat) (s : (Nat → Nat) × (Nat → Option Nat)), f ≤ p → p ≤ l → l < n → k + (l - f) = n - 1 → Inv n v (fun x => f ≤ x ∧ x < l) s.1 s.2 → (f ≤ q → q ≤ l → Path s.2 p q) → ((q < f ∨ l < q) → ∀ x, f ≤ x → x ≤ l → v x < v q) → Path (go v (deep v n k f l) s).2 p q
  | 0, f, l, s, h1, h2, h3, hk, I, pa, sm => pa (by omega) (by omega)
  | k + 1, f, l, s, h1, h2, h3, hk, I, pa, sm => by
    have alone : ∀ w, w < n → (w < f ∨ l < w) → s.1 w = w := fun w hw o => by
      have j := I.jn w hw
      refine Classical.byContradiction fun z => ?_
      rcases Nat.lt_or_gt_of_ne z with y | y
      · have := j (w - 1) (by omega) (by omega)
        omega
      · have := j w (by omega) (by omega)
        omega
    have inside : ∀ w, f ≤ w → w ≤ l → f ≤ s.1 w ∧ s.1 w ≤ l := fun w w1 w2 => by
      have j := I.jn w (by omega)
      refine ⟨Classical.byContradiction fun z => ?_, Classical.byContradiction fun z => ?_⟩
      · have := j (f - 1) (by omega) (by omega)
        omega
      · have := j l (by omega) (by omega)
        omega
    have one : ∀ w, f ≤ w → w ≤ l → s.1 w = s.1 p := fun w w1 w2 => I.same inj (by omega) (by omega) fun x x1 x2 => by omega
    -- q is put over all, when it is joined
    have put : ∀ c w, c + 1 < n → ¬ (f ≤ c ∧ c < l) → (c = q ∧ c + 1 = w ∨ c = w ∧ c + 1 = q) → f ≤ w → w ≤ l → (q < f ∨ l < q) → Path (stH v s.1 s.2 c) p q := fun c w hc nc hcw w1 w2 o => by
      have t := inside w w1 w2
      have vt := sm o _ t.1 t.2
      have eq := alone q hq o
      have ew := one w w1 w2
      have lowq : lowOf v s.1 c = s.1 p ∧ hiOf v s.1 c = q := by
        unfold lowOf hiOf
        rcases hcw with ⟨a, b⟩ | ⟨a, b⟩
        · rw [b, a, eq, ← ew, if_pos vt, if_pos vt]
          exact ⟨rfl, rfl⟩
        · rw [b, a, eq, ← ew, if_neg (by omega), if_neg (by omega)]
          exact ⟨rfl, rfl⟩
      have pp := (I.pth p (by omega)).mono (I.ext inj hc nc)
      exact pp.trans (.step (by unfold stH; rw [lowq.1, if_pos rfl, lowq.2]) (.refl _))
    unfold deep
    by_cases z : dCond v n f l
    · rw [if_pos z]
      obtain ⟨z1, z2⟩ := z
      have nc : ¬ (f ≤ f - 1 ∧ f - 1 < l) := by omega
      have hc : f - 1 + 1 < n := by omega
      refine deep_path inj hq U k (f - 1) l _ (by omega) h2 h3 (by omega) ((I.next inj hc nc).cl fun x => ?_) (fun q1 q2 => ?_) fun o x x1 x2 => ?_
      · constructor
        · rintro (y | y) <;> omega
        · intro y
          by_cases e : x = f - 1
          · exact .inr e
          · exact .inl (by omega)
      · by_cases e : q = f - 1
        · exact put (f - 1) f hc nc (.inl ⟨e.symm, by omega⟩) (Nat.le_refl _) (by omega) (.inl (by omega))
        · exact (pa (by omega) q2).mono (I.ext inj hc nc)
      · by_cases e : x = f - 1
        · subst e
          rcases U with ⟨u1, u2⟩ | ⟨u1, u2⟩
          · rcases z2 with z2 | z2
            · omega
            · by_cases w : l + 1 = q
              · rw [w] at z2; exact z2
              · have := u2 (l + 1) (by omega) (by omega)
                omega
          · exact u2 (f - 1) (by omega) (by omega)
        · exact sm (by omega) x (by omega) x2
    · rw [if_neg z]
      have hl : l < n - 1 := Classical.byContradiction fun w => z ⟨by omega, .inl (by omega)⟩
      have nc : ¬ (f ≤ l ∧ l < l) := by omega
      have hc : l + 1 < n := by omega
      refine deep_path inj hq U k f (l + 1) _ h1 (by omega) hc (by omega) ((I.next inj hc nc).cl fun x => ?_) (fun q1 q2 => ?_) fun o x x1 x2 => ?_
      · constructor
        · rintro (y | y) <;> omega
        · intro y
          by_cases e : x = l
          · exact .inr e
          · exact .inl (by omega)
      · by_cases e : q = l + 1
        · exact put l l hc nc (.inr ⟨rfl, e.symm⟩) (by omega) (Nat.le_refl _) (.inr (by omega))
        · exact (pa q1 (by omega)).mono (I.ext inj hc nc)
      · by_cases e : x = l + 1
        · subst e
          rcases U with ⟨u1, u2⟩ | ⟨u1, u2⟩
          · exact u2 (l + 1) (by omega) (by omega)
          · have nz : ¬ v (f - 1) < v (l + 1) := fun y => z ⟨by omega, .inr y⟩
            have ne : v (f - 1) ≠ v (l + 1) := fun y => by have := inj _ _ (by omega) (by omega) y; omega
            by_cases w : f - 1 = q
            · rw [w] at nz ne; omega
            · have := u2 (f - 1) (by omega) (by omega)
              omega
        · exact sm (by omega) x x1 (by omega)
/-- the chain over p after the deepest history is all that stands above p -/
theorem deep_chain {n : Nat} {v : Nat → Int} (inj : ∀ x y, x < n → y < n → v x = v y → x = y) {p q : Nat} (hp : p < n) (hq : q < n) (U : Up v p q) : Path (go v (deep v n (n - 1) p p) st0).2 p q := by
  refine deep_path inj hq U (n - 1) p p st0 (Nat.le_refl _) (Nat.le_refl _) hp (by omega) ((Inv.start (n := n) (v := v)).cl fun x => ?_) (fun q1 q2 => ?_) fun o x x1 x2 => ?_
  · constructor
    · intro h; exact h.elim
    · intro h; omega
  · rcases U with ⟨u1, _⟩ | ⟨u1, _⟩ <;> omega
  · obtain rfl : x = p := by omega
    exact U.lt
end K70
end

section
namespace K70
open PySem PySem.Spec PyProof.Rows L2 TX
def dhT : FT := eB (eOp oLt (ePk 4 (eCB (c1 lenD) (aC (eVar 4) aN))) (eOp oSub (eCB (c1 lenD) (aC (eVar 0) aN)) (eK (.int 1))))
def dhC : FT := tA (eB (eOp oGt (eVar 2) (eK (.int 0)))) (tR (eB (eOp oEq (eVar 3) (eOp oSub (eCB (c1 lenD) (aC (eVar 0) aN)) (eK (.int 1))))) (eB (eOp oLt (eOp oIx (eVar 0) (eOp oSub (eVar 2) (eK (.int 1)))) (eOp oIx (eVar 0) (eOp oAdd (eVar 3) (eK (.int 1)))))))
def dhL : FS := sSeq (sAug 2 (fun i j => i - j) (eK (.int 1))) (sDrop (eM 4 mApp (aC (eVar 2) aN)))
def dhR : FS := sSeq (sDrop (eM 4 mApp (aC (eVar 3) aN))) (sAug 3 (fun i j => i + j) (eK (.int 1)))
theorem dhT_go {row : D} {p f l : Option O} {L m : Int} {fd : List D} {b : Bool} (el : lenD row = some (.sh (.int L))) (ef : lenD (.lst fd) = some (.sh (.int m))) (h : decide (m < L - 1) = b) : dhT [some (.sh row), p, f, l, some (.lst (fd.map O.sh))] = .ok b [some (.sh row), p, f, l, some (.lst (fd.map O.sh))] := by
  have k3 : toDs (List.map O.sh fd) = fd := toDs_map _
  unfold dhT
  rcases p with _ | p <;> rcases f with _ | f <;> rcases l with _ | l <;> simp [el, ef, h, k3, -lenD_lst]
theorem dhC_a {row : D} {p o : Option O} {f l : Int} (h : ¬ 0 < f) : dhC [some (.sh row), p, some (.sh (.int f)), some (.sh (.int l)), o] = .ok false [some (.sh row), p, some (.sh (.int f)), some (.sh (.int l)), o] := by
  unfold dhC
  simp [h]
theorem dhC_b {row : D} {p o : Option O} {f l L : Int} (el : lenD row = some (.sh (.int L))) (h : 0 < f) (hl : l = L - 1) : dhC [some (.sh row), p, some (.sh (.int f)), some (.sh (.int l)), o] = .ok true [some (.sh row), p, some (.sh (.int f)), some (.sh (.int l)), o] := by
  unfold dhC
  simp [h, el, hl]
theorem dhC_c {row : D} {p o : Option O} {f l L x y : Int} {b : Bool} (el : lenD row = some (.sh (.int L))) (h : 0 < f) (hl : ¬ l = L - 1) (e1 : ixD row (.int (f - 1)) = some (.sh (.int x))) (e2 : ixD row (.int (l + 1)) = some (.sh (.int y))) (hb : decide (x < y) = b) : dhC [some (.sh row), p, some (.sh (.int f)), some (.sh (.int l)), o] = .ok b [some (.sh row), p, some (.sh (.int f)), some (.sh (.int l)), o] := by
  unfold dhC
  simp [h, el, hl, e1, e2, hb, -ixD_r]
theorem dhL_go {row p l : Option O} {f g : Int} {fd : List D} (hg : f - 1 = g) (hl : fd.length < 100000) : dhL [row, p, some (.sh (.int f)), l, some (.lst (fd.map O.sh))] = .ok .nx [row, p, some (.sh (.int g)), l, some (.lst ((fd ++ [D.int g]).map O.sh))] := by
  unfold dhL
  simp [hg, hl]
theorem dhR_go {row p f : Option O} {l g : Int} {fd : List D} (hg : l + 1 = g) (hl : fd.length < 100000) : dhR [row, p, f, some (.sh (.int l)), some (.lst (fd.map O.sh))] = .ok .nx [row, p, f, some (.sh (.int g)), some (.lst ((fd ++ [D.int l]).map O.sh))] := by
  unfold dhR
  simp [hg, hl]
theorem dh_step {t : FT} {a b : FS} {s s2 : Sl} {c : Bool} (h : t s = .ok c s) (g : (if c = true then a s else b s) = .ok .nx s2) : sIf t a b s = .ok .nx s2 := by
  rw [sIf_r, h]
  cases c with
  | true => exact g
  | false => exact g
theorem dh_loop {row : D} {n : Nat} {v : Nat → Int} (R : RowV row n v) (hn : n ≤ 12) {p : Option O} : ∀ (k f l : Nat) (fd : List Nat), f ≤ l → k + (l - f) = n - 1 → l < n → fd.length + k = n - 1 → ∀ m, k < m → ∃ f2 l2 : Nat, whL dhT (sIf dhC dhL dhR) m [some (.sh row), p, some (.sh (.int (f : Int))), some (.sh (.int (l : Int))), some (.lst ((cI fd).map O.sh))] = .ok .nx [some (.sh row), p, some (.sh (.int (f2 : Int))), some (.sh (.int (l2 : Int))), some (.lst ((cI (fd ++ deep v n k f l)).map O.sh))]
  | 0, f, l, fd, h1, h2, h3, h4, m, hm => by
    obtain ⟨m, rfl⟩ : ∃ j, m = j + 1 := ⟨m - 1, by omega⟩
    refine ⟨f, l, ?_⟩
    rw [show deep v n 0 f l = [] from rfl, List.append_nil]
    exact whL_stop (dhT_go (m := ((fd.length : Nat) : Int)) R.el (by rw [lenD_lst]; unfold cI; rw [List.length_map]) (decide_eq_false (by omega)))
  | k + 1, f, l, fd, h1, h2, h3, h4, m, hm => by
    obtain ⟨m, rfl⟩ : ∃ j, m = j + 1 := ⟨m - 1, by omega⟩
    have tt := dhT_go (p := p) (f := some (.sh (.int (f : Int)))) (l := some (.sh (.int (l : Int)))) (fd := cI fd) (m := ((fd.length : Nat) : Int)) (b := true) R.el (by rw [lenD_lst]; unfold cI; rw [List.length_map]) (decide_eq_true (by omega))
    have lf : (cI fd).length < 100000 := by unfold cI; rw [List.length_map]; omega
    have cc : dhC [some (.sh row), p, some (.sh (.int (f : Int))), some (.sh (.int (l : Int))), some (.lst ((cI fd).map O.sh))] = .ok (decide (dCond v n f l)) [some (.sh row), p, some (.sh (.int (f : Int))), some (.sh (.int (l : Int))), some (.lst ((cI fd).map O.sh))] := by
      by_cases z1 : 0 < f
      · by_cases z2 : l = n - 1
        · rw [decide_eq_true (show dCond v n f l from ⟨z1, .inl z2⟩)]
          exact dhC_b R.el (by omega) (by omega)
        · have e : decide (v (f - 1) < v (l + 1)) = decide (dCond v n f l) := by
            rw [decide_eq_decide]
            exact ⟨fun h => ⟨z1, .inr h⟩, fun h => h.2.resolve_left z2⟩
          exact dhC_c R.el (by omega) (by omega) (R.ix _ (f - 1) (by omega) (by omega)) (R.ix _ (l + 1) (by omega) (by omega)) e
      · rw [decide_eq_false (show ¬ dCond v n f l from fun h => z1 h.1)]
        exact dhC_a (by omega)
    by_cases z : dCond v n f l
    · rw [decide_eq_true z] at cc
      have z1 := z.1
      obtain ⟨f2, l2, ih⟩ := dh_loop R hn (p := p) k (f - 1) l (fd ++ [f - 1]) (by omega) (by omega) h3 (by rw [List.length_append, List.length_singleton]; omega) m (by omega)
      refine ⟨f2, l2, (whL_step tt (dh_step cc (s2 := [some (.sh row), p, some (.sh (.int ((f - 1 : Nat) : Int))), some (.sh (.int (l : Int))), some (.lst ((cI (fd ++ [f - 1])).map O.sh))]) ?_)).trans (ih.trans ?_)⟩
      · rw [if_pos rfl, cI_app]
        exact dhL_go (by omega) lf
      · rw [deep, if_pos z, List.append_assoc, List.singleton_append]
    · rw [decide_eq_false z] at cc
      have hl : l < n - 1 := Classical.byContradiction fun w => z ⟨by omega, .inl (by omega)⟩
      obtain ⟨f2, l2, ih⟩ := dh_loop R hn (p := p) k f (l + 1) (fd ++ [l]) (by omega) (by omega) (by omega) (by rw [List.length_append, List.length_singleton]; omega) m (by omega)
      refine ⟨f2, l2, (whL_step tt (dh_step cc (s2 := [some (.sh row), p, some (.sh (.int (f : Int))), some (.sh (.int ((l + 1 : Nat) : Int))), some (.lst ((cI (fd ++ [l])).map O.sh))]) ?_)).trans (ih.trans ?_)⟩
      · rw [if_neg Bool.false_ne_true, cI_app]
        exact dhR_go (by omega) lf
      · rw [deep, if_neg z, List.append_assoc, List.singleton_append]
theorem deep0 {row : D} {p L : Int} {f l : O} {rs : List O} (el : lenD row = some (.sh (.int L))) (h0 : 0 ≤ p) (h1 : p < L) (lp : whL dhT (sIf dhC dhL dhR) fuel [some (.sh row), some (.sh (.int p)), some (.sh (.int p)), some (.sh (.int p)), some (.lst [])] = .ok .nx [some (.sh row), some (.sh (.int p)), some f, some l, some (.lst rs)]) : C_deep_history.run [.sh row, .sh (.int p)] = .ok (.lst rs) [] := by
  refine run_rt (s2 := [some (.sh row), some (.sh (.int p)), some f, some l, none]) (s3 := [some (.sh row), some (.sh (.int p)), some f, some l, none]) ?_ rfl
  unfold dhT dhC dhL dhR at lp
  unfold fb_deep_history
  generalize (eB (eOp oLt (ePk 4 _) _)) = t1 at lp ⊢
  generalize sIf _ _ _ = bb at lp ⊢
  simp [check_place el h0 h1, sWh, lp]
theorem deep_history {row : D} {n : Nat} {v : Nat → Int} (R : RowV row n v) (hn : n ≤ 12) {p : Nat} (hp : p < n) : C_deep_history.run [.sh row, .sh (.int (p : Int))] = .ok (.lst ((cI (deep v n (n - 1) p p)).map O.sh)) [] := by
  obtain ⟨f2, l2, e⟩ := dh_loop R hn (p := some (.sh (.int (p : Int)))) (n - 1) p p [] (Nat.le_refl _) (by omega) hp (by simp) fuel (fuel_big (by omega))
  exact deep0 R.el (by omega) (by omega) e
end K70
end

section
namespace K70
open PySem PySem.Spec PyProof.Rows L2 TX
/-! ### the program's moves -/
def mvL (v : Nat → Int) : List Nat → (Nat → Nat) × (Nat → Option Nat) → List D
  | [], _ => []
  | c :: cs, s => .tup [.int (lowOf v s.1 c : Nat), .int (hiOf v s.1 c : Nat)] :: mvL v cs (stO v s.1 c, stH v s.1 s.2 c)
theorem mvL_len (v : Nat → Int) : ∀ cs s, (mvL v cs s).length = cs.length
  | [], _ => rfl
  | c :: cs, s => by
    show (mvL v cs _).length + 1 = cs.length + 1
    rw [mvL_len v cs]
def mvC : FE := eIf (eB (eOp oEq (eVar 7) (eVar 5))) (eVar 6) (eVar 7)
def mvB : FS := (sEnd [4, 5, 6] (sSeq (sPar [5, 6] (aC (eOp oIx (eVar 2) (eVar 4)) (aC (eOp oIx (eVar 2) (eOp oAdd (eVar 4) (eK (.int 1)))) aN)))
  (sSeq (sIf (eB (eOp oGt (eOp oIx (eVar 0) (eVar 5)) (eOp oIx (eVar 0) (eVar 6)))) (sPar [5, 6] (aC (eVar 6) (aC (eVar 5) aN))) sNx)
  (sSeq (sDrop (eM 3 mApp (aC (eTup (aC (eVar 5) (aC (eVar 6) aN))) aN)))
  (sAsg (eLc [7] (iS (eVar 2)) (gN 7) tY mvC) (gN 2))))))
theorem mv_go {row hist : D} {ds fd : List D} {g a b x y lw hg : Int} {os : List O} (i1 : ixD (.lst ds) (.int g) = some (.sh (.int a))) (i2 : ixD (.lst ds) (.int (g + 1)) = some (.sh (.int b))) (e1 : ixD row (.int a) = some (.sh (.int x))) (e2 : ixD row (.int b) = some (.sh (.int y))) (hz : (y < x ∧ lw = b ∧ hg = a) ∨ (¬ y < x ∧ lw = a ∧ hg = b)) (hl : fd.length < 100000)
    (lc : ∀ s3, lcL [7] (gN 7) tY mvC ds [] [some (.sh row), some (.sh hist), some (.sh (.lst ds)), s3, some (.sh (.int g)), some (.sh (.int lw)), some (.sh (.int hg)), none] = .ok (.lst os) [some (.sh row), some (.sh hist), some (.sh (.lst ds)), s3, some (.sh (.int g)), some (.sh (.int lw)), some (.sh (.int hg)), none]) :
    (gN 4 (.sh (.int g)) [some (.sh row), some (.sh hist), some (.lst (ds.map O.sh)), some (.lst (fd.map O.sh)), none, none, none, none]).bind (fun _ s => mvB s) = .ok .nx [some (.sh row), some (.sh hist), some (.lst os), some (.lst ((fd ++ [D.tup [.int lw, .int hg]]).map O.sh)), none, none, none, none] := by
  have k3 : toDs (List.map O.sh ds) = ds := toDs_map _
  unfold mvB
  generalize mvC = cc at lc ⊢
  rcases hz with ⟨z, rfl, rfl⟩ | ⟨z, rfl, rfl⟩
  · simp [i1, i2, e1, e2, z, hl, lc, k3, -ixD_r]
  · simp [i1, i2, e1, e2, z, hl, lc, k3, -ixD_r]
def wD (n : Nat) (W : Nat → Nat) : List D := (List.range n).map fun i => D.int (W i : Nat)
theorem wD_get {n i : Nat} {W : Nat → Nat} (hi : i < n) : (wD n W)[i]? = some (.int (W i : Nat)) := by
  unfold wD
  rw [List.getElem?_map, List.getElem?_range hi]
  rfl
theorem ix_wD {n i : Nat} {W : Nat → Nat} {k : Int} (e : k = (i : Int)) (hi : i < n) : ixD (.lst (wD n W)) (.int k) = some (.sh (.int (W i : Nat))) := by
  rw [ixD_r, items_lst]
  dsimp only
  rw [e, atI_nat (wD_get hi)]
  rfl
theorem mc_turn {r0 r1 r2 r3 r4 : Option O} {d lw hg t : Int} (h : (if d = lw then hg else d) = t) : ((gN 7 (.sh (.int d)) [r0, r1, r2, r3, r4, some (.sh (.int lw)), some (.sh (.int hg)), none]).bind fun _ s => (tY s).bind fun b s2 => if b = true then (mvC s2).bind fun o s3 => .ok o (wipeS s3 [7]) else .bad) = .ok (.sh (.int t)) [r0, r1, r2, r3, r4, some (.sh (.int lw)), some (.sh (.int hg)), none] := by
  unfold mvC
  by_cases z : d = lw
  · rw [if_pos z] at h
    subst h
    simp [z]
  · rw [if_neg z] at h
    subst h
    simp [z]
theorem mc_all {r0 r1 r2 r3 r4 : Option O} {n : Nat} {W : Nat → Nat} {lw hg : Nat} (hn : n ≤ 12) : lcL [7] (gN 7) tY mvC (wD n W) [] [r0, r1, r2, r3, r4, some (.sh (.int (lw : Nat))), some (.sh (.int (hg : Nat))), none] = .ok (.lst ((wD n fun i => if W i = lw then hg else W i).map O.sh)) [r0, r1, r2, r3, r4, some (.sh (.int (lw : Nat))), some (.sh (.int (hg : Nat))), none] := by
  have := lcL_st (own := [7]) (fg := gN 7) (ftt := tY) (fe := mvC) (fun _ => [r0, r1, r2, r3, r4, some (.sh (.int (lw : Nat))), some (.sh (.int (hg : Nat))), none]) (fun i => O.sh (.int ((if W i = lw then hg else W i : Nat) : Int))) (wD n W) (by unfold wD; simp; omega) fun i d hd => by
    have hi : i < n := by
      refine Classical.byContradiction fun z => ?_
      rw [List.getElem?_eq_none (by unfold wD; simp; omega)] at hd
      cases hd
    rw [wD_get hi] at hd
    cases hd
    refine mc_turn ?_
    by_cases z : W i = lw
    · rw [if_pos (by omega), if_pos z]
    · rw [if_neg (by omega), if_neg z]
  have el : (wD n W).length = n := by unfold wD; simp
  rw [el] at this
  refine this.trans ?_
  unfold wD
  rw [List.map_map]
  rfl
section
variable {row : D} {n : Nat} {v : Nat → Int} (R : RowV row n v)
include R
theorem moves_loop (hn : n ≤ 12) {hist : D} : ∀ (tour : List Nat) (s : (Nat → Nat) × (Nat → Option Nat)) (cl : Nat → Prop) (fd : List D), Inv n v cl s.1 s.2 → tour.Nodup → (∀ c ∈ tour, c + 1 < n ∧ ¬ cl c) → fd.length + tour.length ≤ 1000 →
    ∃ W : Nat → Nat, forL (gN 4) mvB (cI tour) [some (.sh row), some (.sh hist), some (.lst ((wD n s.1).map O.sh)), some (.lst (fd.map O.sh)), none, none, none, none] = .ok .nx [some (.sh row), some (.sh hist), some (.lst ((wD n W).map O.sh)), some (.lst ((fd ++ mvL v tour s).map O.sh)), none, none, none, none]
  | [], s, cl, fd, I, nd, hc, hl => ⟨s.1, by show Rs.ok _ _ = _; rw [show mvL v [] s = [] from rfl, List.append_nil]⟩
  | c :: cs, s, cl, fd, I, nd, hc, hl => by
    obtain ⟨h1, h2⟩ := hc c List.mem_cons_self
    obtain ⟨nd1, nd2⟩ := List.nodup_cons.mp nd
    rw [List.length_cons] at hl
    have nx := I.next R.inj h1 h2
    obtain ⟨W, ih⟩ := moves_loop hn (hist := hist) cs (stO v s.1 c, stH v s.1 s.2 c) _ (fd ++ [D.tup [.int (lowOf v s.1 c : Nat), .int (hiOf v s.1 c : Nat)]]) nx nd2 (fun x hx => ⟨(hc x (List.mem_cons_of_mem _ hx)).1, fun z => by
      rcases z with z | z
      · exact (hc x (List.mem_cons_of_mem _ hx)).2 z
      · rw [z] at hx; exact nd1 hx⟩) (by rw [List.length_append, List.length_singleton]; omega)
    refine ⟨W, ?_⟩
    have t := mv_go (row := row) (hist := hist) (ds := wD n s.1) (fd := fd) (g := (c : Int)) (lw := (lowOf v s.1 c : Nat)) (hg := (hiOf v s.1 c : Nat)) (ix_wD rfl (by omega)) (ix_wD (i := c + 1) (by omega) h1) (R.ix _ (s.1 c) rfl (I.lt c (by omega))) (R.ix _ (s.1 (c + 1)) rfl (I.lt (c + 1) h1)) (by
      unfold lowOf hiOf
      by_cases z : v (s.1 (c + 1)) < v (s.1 c)
      · rw [if_pos z, if_pos z]; exact .inl ⟨z, rfl, rfl⟩
      · rw [if_neg z, if_neg z]; exact .inr ⟨z, rfl, rfl⟩) (by omega) (fun s3 => mc_all hn)
    show (gN 4 (.sh (.int (c : Int))) _).bind _ = _
    rw [show (gN 4 (.sh (.int (c : Int))) [some (.sh row), some (.sh hist), some (.lst ((wD n s.1).map O.sh)), some (.lst (fd.map O.sh)), none, none, none, none]) = .ok () [some (.sh row), some (.sh hist), some (.lst ((wD n s.1).map O.sh)), some (.lst (fd.map O.sh)), some (.sh (.int (c : Int))), none, none, none] from rfl] at t ⊢
    show Rs.bind (mvB _) _ = _
    rw [show mvB _ = _ from t]
    refine ih.trans ?_
    rw [List.append_assoc]
    rfl
omit R in
theorem moves0 {row : D} {ds : List D} {L : Int} {nn : List D} {os rs : List O} (el : lenD row = some (.sh (.int L))) (h0 : 0 ≤ L) (h1 : L ≤ 12) (hr : rngD 0 L.toNat = nn) (lp : forL (gN 4) mvB ds [some (.sh row), some (.sh (.lst ds)), some (.lst (nn.map O.sh)), some (.lst []), none, none, none, none] = .ok .nx [some (.sh row), some (.sh (.lst ds)), some (.lst os), some (.lst rs), none, none, none, none]) : C_moves.run [.sh row, .sh (.lst ds)] = .ok (.lst rs) [] := by
  refine run_rt (s2 := [some (.sh row), some (.sh (.lst ds)), some (.lst os), none, none, none, none, none]) (s3 := [some (.sh row), some (.sh (.lst ds)), some (.lst os), none, none, none, none, none]) ?_ rfl
  have s5 : small5 L = true := small5_of (by omega) (by omega)
  unfold mvB mvC at lp
  unfold fb_moves
  generalize sEnd [4, 5, 6] _ = body at lp ⊢
  have h1 : sAsg (eLr1 (eCB (c1 lenD) (aC (eVar 0) aN))) (gN 2) [some (.sh row), some (.sh (.lst ds)), none, none, none, none, none, none] = .ok .nx [some (.sh row), some (.sh (.lst ds)), some (.lst (nn.map O.sh)), none, none, none, none, none] := by simp [el, s5, hr]
  have h2 : sAsg (eLst aN) (gN 3) [some (.sh row), some (.sh (.lst ds)), some (.lst (nn.map O.sh)), none, none, none, none, none] = .ok .nx [some (.sh row), some (.sh (.lst ds)), some (.lst (nn.map O.sh)), some (.lst []), none, none, none, none] := by simp
  have h3 : sFor (iS (eVar 1)) (gN 4) body [some (.sh row), some (.sh (.lst ds)), some (.lst (nn.map O.sh)), some (.lst []), none, none, none, none] = .ok .nx [some (.sh row), some (.sh (.lst ds)), some (.lst os), some (.lst rs), none, none, none, none] := by simp [lp]
  have h4 : sRet (eMv 3) [some (.sh row), some (.sh (.lst ds)), some (.lst os), some (.lst rs), none, none, none, none] = .ok (.rt (.lst rs)) [some (.sh row), some (.sh (.lst ds)), some (.lst os), none, none, none, none, none] := by simp
  exact seq_nx h1 (seq_nx h2 (seq_nx h3 h4))
theorem moves {tour : List Nat} (nd : tour.Nodup) (hc : ∀ c ∈ tour, c + 1 < n) (hn : n ≤ 12) (hl : tour.length ≤ 100) : C_moves.run [.sh row, .sh (.lst (cI tour))] = .ok (.lst ((mvL v tour st0).map O.sh)) [] := by
  obtain ⟨W, e⟩ := moves_loop R hn (hist := .lst (cI tour)) tour st0 _ [] (Inv.start (n := n) (v := v)) nd (fun c h => ⟨hc c h, fun z => z⟩) (by simpa using by omega)
  refine moves0 (L := (n : Int)) (nn := wD n id) R.el (by omega) (by omega) ?_ e
  unfold rngD wD
  rw [Int.toNat_natCast]
  refine List.map_congr_left fun i _ => ?_
  show D.int (0 + (i : Int)) = D.int (i : Int)
  exact congrArg D.int (by omega)
def naB : FS := sEnd [3, 4] (sAsg (eVar 4) (gSt 2 (eVar 3)))
omit R in
theorem na_go {r h : Option O} {a b : Int} {j : Nat} {os : List O} (e : ixN os.length a = some j) : ((gT 2 (gsC (gN 3) (gsC (gN 4) gsN))) (.sh (.tup [.int a, .int b])) [r, h, some (.lst os), none, none]).bind (fun _ s => naB s) = .ok .nx [r, h, some (.lst (os.set j (.sh (.int b)))), none, none] := by
  unfold naB
  simp [e]
theorem na_loop {r hist : Option O} : ∀ (tour : List Nat) (s : (Nat → Nat) × (Nat → Option Nat)) (cl : Nat → Prop), Inv n v cl s.1 s.2 → tour.Nodup → (∀ c ∈ tour, c + 1 < n ∧ ¬ cl c) →
    forL (gT 2 (gsC (gN 3) (gsC (gN 4) gsN))) naB (mvL v tour s) [r, hist, some (.lst ((arr n s.2).map O.sh)), none, none] = .ok .nx [r, hist, some (.lst ((arr n (go v tour s).2).map O.sh)), none, none]
  | [], s, cl, I, nd, hc => rfl
  | c :: cs, s, cl, I, nd, hc => by
    obtain ⟨h1, h2⟩ := hc c List.mem_cons_self
    obtain ⟨nd1, nd2⟩ := List.nodup_cons.mp nd
    have nx := I.next R.inj h1 h2
    obtain ⟨ab, lv⟩ := I.ends R.inj h1 h2
    have lt : lowOf v s.1 c < n := by rcases ab with ⟨a, _⟩ | ⟨a, _⟩ <;> (rw [a]; exact I.lt _ (by omega))
    have ih := na_loop (r := r) (hist := hist) cs (stO v s.1 c, stH v s.1 s.2 c) _ nx nd2 (fun x hx => ⟨(hc x (List.mem_cons_of_mem _ hx)).1, fun z => by
      rcases z with z | z
      · exact (hc x (List.mem_cons_of_mem _ hx)).2 z
      · rw [z] at hx; exact nd1 hx⟩)
    have t := na_go (r := r) (h := hist) (a := (lowOf v s.1 c : Nat)) (b := (hiOf v s.1 c : Nat)) (os := (arr n s.2).map O.sh) (ixN_nat (by rw [List.length_map, arr_len]; exact lt))
    have es : ((arr n s.2).map O.sh).set (lowOf v s.1 c) (.sh (.int (hiOf v s.1 c : Nat))) = (arr n (stH v s.1 s.2 c)).map O.sh := by
      rw [show (O.sh (.int (hiOf v s.1 c : Nat))) = O.sh (D.int ((hiOf v s.1 c : Nat) : Int)) from rfl, ← List.map_set, arr_set lt]
      rfl
    rw [es] at t
    refine (forL_step (s1 := [r, hist, some (.lst ((arr n s.2).map O.sh)), some (.sh (.int (lowOf v s.1 c : Nat))), some (.sh (.int (hiOf v s.1 c : Nat)))]) rfl (s2 := [r, hist, some (.lst ((arr n (stH v s.1 s.2 c)).map O.sh)), none, none]) ?_).trans ih
    exact t
omit R in
theorem na0 {row hist : D} {L : Int} {nn : List D} {ms os : List O} {md fin : List D} (el : lenD row = some (.sh (.int L))) (mu : mulD (.lst [.non]) (.int L) = some (.lst (nn.map O.sh))) (em : C_moves.run [.sh row, .sh hist] = .ok (.lst ms) []) (hm : toDs ms = md) (lp : forL (gT 2 (gsC (gN 3) (gsC (gN 4) gsN))) naB md [some (.sh row), some (.sh hist), some (.lst (nn.map O.sh)), none, none] = .ok .nx [some (.sh row), some (.sh hist), some (.lst os), none, none]) (hf : toDs os = fin) : C_nesting_after.run [.sh row, .sh hist] = .ok (.sh (.tup fin)) [] := by
  refine run_rt (s2 := [some (.sh row), some (.sh hist), some (.sh (.lst fin)), none, none]) (s3 := [some (.sh row), some (.sh hist), some (.sh (.lst fin)), none, none]) ?_ rfl
  unfold naB at lp
  unfold fb_nesting_after
  generalize sEnd [3, 4] _ = body at lp ⊢
  generalize (gT 2 _) = gg at lp ⊢
  have e1 : eOp oMul (eLst (aC (eK .non) aN)) (eCB (c1 lenD) (aC (eVar 0) aN)) [some (.sh row), some (.sh hist), none, none, none] = .ok (.lst (nn.map O.sh)) [some (.sh row), some (.sh hist), none, none, none] := by simp [el, mu]
  generalize (eOp oMul _ _) = f1 at e1 ⊢
  have h1 : sAsg f1 (gN 2) [some (.sh row), some (.sh hist), none, none, none] = .ok .nx [some (.sh row), some (.sh hist), some (.lst (nn.map O.sh)), none, none] := by simp [e1]
  have h2 : sFor (iS (eCall C_moves (rV (eVar 0) (rV (eVar 1) rN)))) gg body [some (.sh row), some (.sh hist), some (.lst (nn.map O.sh)), none, none] = .ok .nx [some (.sh row), some (.sh hist), some (.lst os), none, none] := by simp [em, hm, lp]
  have ht : tupleD (.lst fin) = some (.sh (.tup fin)) := rfl
  have h3 : sRet (eCB (c1 tupleD) (aC (eVar 2) aN)) [some (.sh row), some (.sh hist), some (.lst os), none, none] = .ok (.rt (.sh (.tup fin))) [some (.sh row), some (.sh hist), some (.sh (.lst fin)), none, none] := by simp [hf, ht]
  exact seq_nx h1 (seq_nx h2 h3)
theorem nesting_after {tour : List Nat} (nd : tour.Nodup) (hc : ∀ c ∈ tour, c + 1 < n) (hn : n ≤ 12) (hl : tour.length ≤ 100) : C_nesting_after.run [.sh row, .sh (.lst (cI tour))] = .ok (.sh (.tup (arr n (go v tour st0).2))) [] := by
  have lp := na_loop R (r := some (.sh row)) (hist := some (.sh (.lst (cI tour)))) tour st0 _ (Inv.start (n := n) (v := v)) nd fun c h => ⟨hc c h, fun z => z⟩
  refine na0 R.el (mul_non (by omega) (by omega)) (moves R nd hc hn hl) (toDs_map _) ?_ (toDs_map _)
  rw [Int.toNat_natCast, ← arr_none]
  exact lp
end
end K70
end

section
namespace K70
open PySem PySem.Spec PyProof.Rows L2 TX
/-! ### the draws -/
theorem takeX {x y z : Int} {n : Int} {R : Con} {s : Int} (hx : 0 < x) (hy : 0 ≤ y) (hy2 : y < 2147483549) (hz : 0 ≤ z) (hz2 : z ≤ n) (h1 : 1 ≤ s) (h2 : s < 1073741824) : ∃ r b', (mkC 2 2 [0] (fb_l_take R)).run [boxO x y z, .sh (.int s)] = .ok (.sh (.int r)) [b'] ∧ 0 ≤ r ∧ r < s ∧ BX b' (n + 1) := by
  have hs : 0 < s := by omega
  refine ⟨x % s, boxO (x / s) y z, ?_, Int.emod_nonneg _ (by omega), Int.emod_lt_of_pos _ (by omega), _, _, _, rfl, hy, hy2, hz, by omega⟩
  refine run_rt (s2 := [some (boxO (x / s) y z), some (.sh (.int s)), none, none]) (s3 := [none, some (.sh (.int s)), none, none]) ?_ rfl
  simp [fb_l_take, boxO, hx, hs, h2, ixN]
theorem take1 {b : O} {n : Int} {R : Con} {s : Int} (h : BX b n) (hn : n ≤ 1000000000) (h1 : 1 ≤ s) (h2 : s ≤ 10000000) : ∃ r b', (mkC 2 2 [0] (fb_l_take R)).run [b, .sh (.int s)] = .ok (.sh (.int r)) [b'] ∧ 0 ≤ r ∧ r < s ∧ BX b' (n + 1) := by
  obtain ⟨x, y, z, rfl, hy, hy2, hz, hz2⟩ := h
  by_cases hx : 0 < x
  · exact takeX hx hy hy2 hz hz2 h1 (by omega)
  · have hs : 0 < s := by omega
    have hs2 : s < 1073741824 := by omega
    have hs3 : ¬ 10000000 < s := by omega
    have hs4 : small 52183 = true := by decide
    generalize hq : (y + 52183 * (z + 1)) ^ 3 % 2147483587 = q
    have q0 : 0 ≤ q := by rw [← hq]; exact Int.emod_nonneg _ (by decide)
    have q1 : q < 2147483587 := by rw [← hq]; exact Int.emod_lt_of_pos _ (by decide)
    have hp : (y + 52183 * (z + 1)).natAbs < 18446744073709551616 := by omega
    have sq : small q = true := small_of (by omega) (by omega)
    have sz : small (z + 1) = true := small_of (by omega) (by omega)
    refine ⟨(q * (q % 30011 + 13) + (z + 1) * 6389) % 2147483647 / 32 % s, boxO x y (z + 1), ?_, Int.emod_nonneg _ (by omega), Int.emod_lt_of_pos _ (by omega), _, _, _, rfl, hy, hy2, by omega, by omega⟩
    refine run_rt (s2 := [some (boxO x y (z + 1)), some (.sh (.int s)), none, some (.sh (.int q))]) (s3 := [none, some (.sh (.int s)), none, some (.sh (.int q))]) ?_ rfl
    simp [fb_l_take, boxO, hx, hs, hs2, hs3, hs4, ixN, hp, hq, sq, sz]
theorem take {b : O} {n : Int} {s : Int} (h : BX b n) (hn : n ≤ 900000000) (h1 : 1 ≤ s) (h2 : s ≤ 100000000) : ∃ r b', (C_l_take 2).run [b, .sh (.int s)] = .ok (.sh (.int r)) [b'] ∧ 0 ≤ r ∧ r < s ∧ BX b' (n + 2) := by
  show ∃ r b', (mkC 2 2 [0] (fb_l_take (C_l_take 1))).run _ = _ ∧ _
  by_cases hs : s ≤ 10000000
  · obtain ⟨r, b', e, r0, r1, h'⟩ := take1 (R := C_l_take 1) h (by omega) h1 hs
    exact ⟨r, b', e, r0, r1, h'.mono (by omega)⟩
  · have h0 := h
    obtain ⟨x, y, z, rfl, hy, hy2, hz, hz2⟩ := h
    by_cases hx : 0 < x
    · obtain ⟨r, b', e, r0, r1, h'⟩ := takeX (R := C_l_take 1) hx hy hy2 hz hz2 h1 (by omega)
      exact ⟨r, b', e, r0, r1, h'.mono (by omega)⟩
    · obtain ⟨r1, b1, e1, _, _, h1'⟩ := take1 (R := C_l_take 0) (s := 10000000) h0 (by omega) (by decide) (by decide)
      obtain ⟨r2, b2, e2, _, _, h2'⟩ := take1 (R := C_l_take 0) (s := s / 10000000 + 1) h1' (by omega) (by omega) (by omega)
      have e1' : (C_l_take 1).run [boxO x y z, .sh (.int 10000000)] = _ := e1
      have e2' : (C_l_take 1).run [b1, .sh (.int (s / 10000000 + 1))] = _ := e2
      have hs0 : 0 < s := by omega
      have hs2 : 10000000 < s := by omega
      have hs4 : small 10000000 = true := by decide
      have cn : (C_l_take 1).n = 2 := rfl
      have cf : (C_l_take 1).fx = [0] := rfl
      refine ⟨(r1 + 10000000 * r2) % s, b2, ?_, Int.emod_nonneg _ (by omega), Int.emod_lt_of_pos _ (by omega), h2'.mono (by omega)⟩
      refine run_rt (s2 := [some b2, some (.sh (.int s)), none, none]) (s3 := [none, some (.sh (.int s)), none, none]) ?_ rfl
      unfold boxO at e1' ⊢
      simp [fb_l_take, hx, hs0, hs2, hs4, ixN, e1', e2', cn, cf]
@[simp] theorem take_n {k : Nat} : (C_l_take k).n = 2 := by cases k <;> rfl
@[simp] theorem take_fx {k : Nat} : (C_l_take k).fx = [0] := by cases k <;> rfl
@[simp] theorem pick_n : C_l_pick.n = 2 := rfl
@[simp] theorem pick_fx : C_l_pick.fx = [0] := rfl
@[simp] theorem shuf_n : C_l_shuffled.n = 2 := rfl
@[simp] theorem shuf_fx : C_l_shuffled.fx = [0] := rfl
@[simp] theorem sizes_n : C_l_sizes.n = 2 := rfl
@[simp] theorem sizes_fx : C_l_sizes.fx = [0] := rfl
@[simp] theorem same_n {k : Nat} : (C_l_same k).n = 2 := by cases k <;> rfl
@[simp] theorem same_fx {k : Nat} : (C_l_same k).fx = [] := by cases k <;> rfl
@[simp] theorem box_n : C_l_box.n = 2 := rfl
@[simp] theorem box_fx : C_l_box.fx = [] := rfl
theorem pick {b : O} {n : Int} {ds : List D} (h : BX b n) (hn : n ≤ 900000000) (h1 : ds ≠ []) (h2 : ds.length ≤ 1000) : ∃ d b', C_l_pick.run [b, .sh (.lst ds)] = .ok (.sh d) [b'] ∧ d ∈ ds ∧ BX b' (n + 2) := by
  have hl : 0 < ds.length := List.length_pos_iff.mpr h1
  obtain ⟨r, b', e, r0, r1, h'⟩ := take (s := ds.length) h hn (by omega) (by omega)
  obtain ⟨k, rfl⟩ := Int.eq_ofNat_of_zero_le r0
  have hk : k < ds.length := by omega
  have ea : atI ds (k : Int) = some ds[k] := atI_nat (List.getElem?_eq_getElem hk)
  refine ⟨ds[k], b', ?_, List.getElem_mem hk, h'⟩
  refine run_rt (s2 := [some b', some (.sh (.lst ds))]) (s3 := [none, some (.sh (.lst ds))]) ?_ rfl
  simp [fb_l_pick, e, ea]
theorem shuf_loop : ∀ (k : Nat) (left found : List Int) (b : O) (n : Int) (x : D), left.length = k → left.length + found.length ≤ 1000 → BX b n → n + 2 * k ≤ 900000000 →
    ∃ (es : List Int) (b' : O), (∀ m, k < m → whL (eB (ePk 2 (eOp oNe (eVar 2) (eLst aN)))) (sDrop (eM 3 mApp (aC (eM 2 mPopAt (aC (eCall (C_l_take 2) (rL 0 (rV (ePk 2 (eCB (c1 lenD) (aC (eVar 2) aN))) rN))) aN)) aN))) m
      [some b, some (.sh x), some (.lst ((left.map D.int).map O.sh)), some (.lst ((found.map D.int).map O.sh))] = .ok .nx [some b', some (.sh x), some (.lst []), some (.lst ((es.map D.int).map O.sh))]) ∧ es.Perm (found ++ left) ∧ BX b' (n + 2 * k)
  | 0, left, found, b, n, x, hl, hf, hb, hn => by
    have e : left = [] := List.length_eq_zero_iff.mp hl
    subst e
    refine ⟨found, b, fun m hm => ?_, by simp, hb.mono (by omega)⟩
    obtain ⟨m, rfl⟩ : ∃ j, m = j + 1 := ⟨m - 1, by omega⟩
    have e1 : neD (.lst []) (.lst []) = some (.sh (.bl false)) := by
      unfold neD
      rw [show okD (.lst []) = true from okD_ints [], eqv_nil]
      rfl
    simp [whL, e1]
  | k + 1, left, found, b, n, x, hl, hf, hb, hn => by
    obtain ⟨r, b1, e, r0, r1, h'⟩ := take (s := left.length) hb (by omega) (by omega) (by omega)
    obtain ⟨j, rfl⟩ := Int.eq_ofNat_of_zero_le r0
    have hj : j < left.length := by omega
    obtain ⟨es, b', ih, ip, ib⟩ := shuf_loop k (left.eraseIdx j) (found ++ [left[j]]) b1 (n + 2) x (by rw [List.length_eraseIdx_of_lt hj]; omega) (by rw [List.length_eraseIdx_of_lt hj, List.length_append]; simp; omega) h' (by omega)
    refine ⟨es, b', fun m hm => ?_, ip.trans ?_, ib.mono (by omega)⟩
    · obtain ⟨m, rfl⟩ : ∃ j, m = j + 1 := ⟨m - 1, by omega⟩
      have e1 : neD (.lst (left.map D.int)) (.lst []) = some (.sh (.bl true)) := by
        unfold neD
        rw [okD_ints, show okD (.lst []) = true from okD_ints [], eqv_nil, Bool.and_self, if_pos rfl]
        cases left with
        | nil => simp at hl
        | cons a l => rfl
      have e3 : (((left.map D.int).map O.sh))[j]? = some (.sh (.int left[j])) := by simp [hj]
      have e4 : (((left.map D.int).map O.sh)).eraseIdx j = ((left.eraseIdx j).map D.int).map O.sh := by rw [eraseIdx_map, eraseIdx_map]
      have e5 : (((found.map D.int).map O.sh)) ++ [O.sh (.int left[j])] = (((found ++ [left[j]]).map D.int).map O.sh) := by simp
      have e6 : (found.map D.int).length < 100000 := by rw [List.length_map]; omega
      have e7 : (found).length < 100000 := by omega
      have e8 : (j : Int) < 100000 := by omega
      refine (whL_step (s1 := [some b, some (.sh x), some (.lst ((left.map D.int).map O.sh)), some (.lst ((found.map D.int).map O.sh))]) (s2 := [some b1, some (.sh x), some (.lst (((left.eraseIdx j).map D.int).map O.sh)), some (.lst (((found ++ [left[j]]).map D.int).map O.sh))]) ?_ ?_).trans (ih m (by omega))
      · simp [e1, -List.map_map]
      · simp [e, mPopAt, e3, e4, e6, e7, e8, hj, -List.map_map]
    · have p1 : (left[j] :: left.eraseIdx j).Perm left := cons_eraseIdx_perm left j hj
      rw [List.append_assoc]
      exact (List.perm_append_left_iff found).mpr p1
theorem shuffled {b : O} {n : Int} {ns : List Int} {o : O} (ho : toD o = .lst (ns.map D.int) ∨ toD o = .tup (ns.map D.int)) (h : BX b n) (hl : ns.length ≤ 100) (hn : n + 200 ≤ 900000000) :
    ∃ (es : List Int) (b' : O), C_l_shuffled.run [b, .sh (toD o)] = .ok (.lst ((es.map D.int).map O.sh)) [b'] ∧ es.Perm ns ∧ BX b' (n + 2 * ns.length) := by
  obtain ⟨es, b', e, p, h'⟩ := shuf_loop ns.length ns [] b n (toD o) rfl (by simp; omega) h (by omega)
  have e1 := e fuel (fuel_big (by omega))
  refine ⟨es, b', ?_, by simpa using p, h'⟩
  refine run_rt (s2 := [some b', some (.sh (toD o)), some (.lst []), none]) (s3 := [none, some (.sh (toD o)), some (.lst []), none]) ?_ rfl
  have e2 : listD (toD o) = some (.lst ((ns.map D.int).map O.sh)) := by
    unfold listD
    rcases ho with z | z <;> rw [z] <;> rfl
  simp only [List.map_nil] at e1
  simp [fb_l_shuffled, e2, sWh, e1, -List.map_map]
theorem sizes_loop : ∀ (k : Nat) (ds : List D) (found : List Int) (top crack : Int) (b : O) (n : Int) (a1 a2 : D), ds.length = k → found.length + k ≤ 100 → BX b n → n + 2 * k ≤ 900000000 → 1 ≤ crack → crack ≤ 80000000 → found.Pairwise (· < ·) → (∀ x ∈ found, 1 ≤ x ∧ x ≤ top) → 0 ≤ top →
    ∃ (f2 : List Int) (t2 : Int) (b' : O), forL (gN 6) (sEnd [6] (sSeq (sAsg (eOp oAdd (eOp oAdd (eVar 4) (eK (.int 1))) (eCall (C_l_take 2) (rL 0 (rV (eVar 3) rN)))) (gN 4)) (sDrop (eM 5 mApp (aC (eVar 4) aN))))) ds
      [some b, some (.sh a1), some (.sh a2), some (.sh (.int crack)), some (.sh (.int top)), some (.lst ((found.map D.int).map O.sh)), none, none] = .ok .nx [some b', some (.sh a1), some (.sh a2), some (.sh (.int crack)), some (.sh (.int t2)), some (.lst ((f2.map D.int).map O.sh)), none, none] ∧
      f2.length = found.length + k ∧ f2.Pairwise (· < ·) ∧ (∀ x ∈ f2, 1 ≤ x ∧ x ≤ t2) ∧ t2 ≤ top + 80000000 * k ∧ BX b' (n + 2 * k)
  | 0, ds, found, top, crack, b, n, a1, a2, hl, hf, hb, hn, c1, c2, p1, p2, p3 => by
    have e : ds = [] := List.length_eq_zero_iff.mp hl
    subst e
    exact ⟨found, top, b, rfl, rfl, p1, p2, by omega, hb.mono (by omega)⟩
  | k + 1, ds, found, top, crack, b, n, a1, a2, hl, hf, hb, hn, c1, c2, p1, p2, p3 => by
    match ds, hl with
    | d :: ds, hl =>
      obtain ⟨r, b1, e, r0, r1, h'⟩ := take (s := crack) hb (by omega) (by omega) (by omega)
      have p4 : (found ++ [top + 1 + r]).Pairwise (· < ·) := by
        rw [List.pairwise_append]
        refine ⟨p1, List.pairwise_singleton _ _, fun x hx y hy => ?_⟩
        rw [List.mem_singleton] at hy
        have := (p2 x hx).2
        omega
      have p5 : ∀ x ∈ found ++ [top + 1 + r], 1 ≤ x ∧ x ≤ top + 1 + r := fun x hx => by
        rcases List.mem_append.mp hx with hx | hx
        · have := p2 x hx
          omega
        · rw [List.mem_singleton] at hx
          omega
      obtain ⟨f2, t2, b', e2, q1, q2, q3, q4, q5⟩ := sizes_loop k ds (found ++ [top + 1 + r]) (top + 1 + r) crack b1 (n + 2) a1 a2 (by simpa using hl) (by simp; omega) h' (by omega) c1 c2 p4 p5 (by omega)
      refine ⟨f2, t2, b', ?_, by rw [q1, List.length_append]; simp; omega, q2, q3, by omega, q5.mono (by omega)⟩
      refine (forL_step (s1 := [some b, some (.sh a1), some (.sh a2), some (.sh (.int crack)), some (.sh (.int top)), some (.lst ((found.map D.int).map O.sh)), some (.sh d), none]) (s2 := [some b1, some (.sh a1), some (.sh a2), some (.sh (.int crack)), some (.sh (.int (top + 1 + r))), some (.lst (((found ++ [top + 1 + r]).map D.int).map O.sh)), none, none]) rfl ?_).trans e2
      have e6 : found.length < 100000 := by omega
      simp [e, e6, -List.map_map]
theorem sizes {b : O} {n : Int} {most : Nat} (h : BX b n) (hn : n + 300 ≤ 900000000) (h1 : 1 ≤ most) (h2 : most ≤ 12) : ∃ (ns : List Int) (b' : O), C_l_sizes.run [b, .sh (.int (most : Int))] = .ok (.sh (.tup (ns.map D.int))) [b'] ∧ rowOk most ns ∧ BX b' (n + 300) := by
  obtain ⟨r, b1, e1, r0, r1, g1⟩ := take (s := most) h (by omega) (by omega) (by omega)
  obtain ⟨d, b2, e2, dm, g2⟩ := pick (ds := [.int 1, .int 1, .int 3, .int 80000000]) g1 (by omega) (by simp) (by decide)
  obtain ⟨crack, rfl, cr1, cr2⟩ : ∃ crack : Int, d = .int crack ∧ 1 ≤ crack ∧ crack ≤ 80000000 := by
    simp only [List.mem_cons, List.mem_nil_iff, or_false] at dm
    rcases dm with rfl | rfl | rfl | rfl
    · exact ⟨_, rfl, by decide, by decide⟩
    · exact ⟨_, rfl, by decide, by decide⟩
    · exact ⟨_, rfl, by decide, by decide⟩
    · exact ⟨_, rfl, by decide, by decide⟩
  obtain ⟨c, hc⟩ := Int.eq_ofNat_of_zero_le (show 0 ≤ 1 + r by omega)
  obtain ⟨f2, t2, b3, e3, q1, q2, q3, q4, q5⟩ := sizes_loop c (rngD 0 c) [] 0 crack b2 (n + 2 + 2) (.int most) (.int (1 + r)) (rngD_len _ _) (by simp; omega) g2 (by omega) cr1 cr2 List.Pairwise.nil (by simp) (by decide)
  obtain ⟨way, b4, e4, w0, w1, g4⟩ := take (s := 6) q5 (by omega) (by decide) (by decide)
  have len : f2.length = c := by simpa using q1
  have ok : rowOk most f2 := ⟨by omega, by omega, q2.imp (fun h => Int.ne_of_lt h), fun x hx => ⟨(q3 x hx).1, by have := (q3 x hx).2; omega⟩⟩
  have hsm : small 8 = true := by decide
  have ir : inR (1 + r) = true := inR_of (by omega) (by omega)
  have tn : (1 + r).toNat = c := by omega
  simp only [List.map_nil] at e3
  by_cases w0 : way = 0
  · refine ⟨f2, b4, ?_, ok, g4.mono (by omega)⟩
    refine run_rt (s2 := [some b4, some (.sh (.int most)), some (.sh (.int (1 + r))), some (.sh (.int crack)), some (.sh (.int t2)), some (.sh (.lst (f2.map D.int))), none, some (.sh (.int way))]) (s3 := [none, some (.sh (.int most)), some (.sh (.int (1 + r))), some (.sh (.int crack)), some (.sh (.int t2)), some (.sh (.lst (f2.map D.int))), none, some (.sh (.int way))]) ?_ rfl
    simp [fb_l_sizes, e1, e2, hsm, ir, tn, e3, e4, w0, tupleD, -List.map_map]
  · by_cases w1 : way = 1
    · refine ⟨f2.reverse, b4, ?_, ok.perm (List.reverse_perm f2), g4.mono (by omega)⟩
      refine run_rt (s2 := [some b4, some (.sh (.int most)), some (.sh (.int (1 + r))), some (.sh (.int crack)), some (.sh (.int t2)), some (.sh (.lst (f2.map D.int))), none, some (.sh (.int way))]) (s3 := [none, some (.sh (.int most)), some (.sh (.int (1 + r))), some (.sh (.int crack)), some (.sh (.int t2)), some (.sh (.lst (f2.map D.int))), none, some (.sh (.int way))]) ?_ rfl
      have pr := pick_rev (f2.map D.int)
      rw [List.length_map] at pr
      simp [fb_l_sizes, e1, e2, hsm, ir, tn, e3, e4, w0, w1, tupleD, pr, -List.map_map]
    · by_cases w2 : way = 2
      · obtain ⟨es, h3, h4⟩ := perm_ints (ev_od_perm (f2.map D.int) (by rw [List.length_map]; omega))
        refine ⟨es, b4, ?_, ok.perm h4, g4.mono (by omega)⟩
        refine run_rt (s2 := [some b4, some (.sh (.int most)), some (.sh (.int (1 + r))), some (.sh (.int crack)), some (.sh (.int t2)), some (.sh (.lst (f2.map D.int))), none, some (.sh (.int way))]) (s3 := [none, some (.sh (.int most)), some (.sh (.int (1 + r))), some (.sh (.int crack)), some (.sh (.int t2)), some (.sh (.lst (f2.map D.int))), none, some (.sh (.int way))]) ?_ rfl
        have pr := pick_rev (pickL (stepIx (some 1) none (some 2) f2.length) (f2.map D.int))
        rw [List.length_map] at h3
        have l1 : (pickL (stepIx none none (some 2) f2.length) (f2.map D.int)).length + (pickL (stepIx (some 1) none (some 2) f2.length) (f2.map D.int)).length ≤ 100000 := by
          have := congrArg List.length h3
          rw [List.length_append, List.length_reverse] at this
          rw [this, List.length_map, h4.length_eq]
          omega
        simp [fb_l_sizes, e1, e2, hsm, ir, tn, e3, e4, w0, w1, w2, tupleD, pr, l1, ← h3, -List.map_map]
      · obtain ⟨es, b5, e5, p5, g5⟩ := shuffled (ns := f2) (o := .sh (.lst (f2.map D.int))) (.inl rfl) g4 (by omega) (by omega)
        refine ⟨es, b5, ?_, ok.perm p5, g5.mono (by omega)⟩
        refine run_rt (s2 := [some b5, some (.sh (.int most)), some (.sh (.int (1 + r))), some (.sh (.int crack)), some (.sh (.int t2)), some (.sh (.lst (f2.map D.int))), none, some (.sh (.int way))]) (s3 := [none, some (.sh (.int most)), some (.sh (.int (1 + r))), some (.sh (.int crack)), some (.sh (.int t2)), some (.sh (.lst (f2.map D.int))), none, some (.sh (.int way))]) ?_ rfl
        simp only [toD_sh] at e5
        simp [fb_l_sizes, e1, e2, hsm, ir, tn, e3, e4, w0, w1, w2, e5, tupleD, -List.map_map]
theorem box_key {a : D} (c kk : Int) : ∃ b, (sRet (eLst (aC (eOp oMul (eCB (c1 absD) (aC (eVar 2) aN)) (eCB (c1 intD) (aC (eOp oGe (eCB (c1 absD) (aC (eVar 2) aN)) (eOp oPow (eK (.int 10)) (eK (.int 18)))) aN))) (aC (eOp oMod (eOp oMul (eOp oAdd (eOp oAdd (eOp oMod (eVar 2) (eK (.int 2147483629))) (eOp oMul (eK (.int 17417)) (eVar 1))) (eK (.int 37))) (eK (.int 40277))) (eK (.int 2147483549))) (aC (eK (.int 0)) aN))))) [some (.sh a), some (.sh (.int kk)), some (.sh (.int c))] = .ok (.rt b) [some (.sh a), some (.sh (.int kk)), some (.sh (.int c))] ∧ BX b 0 := by
  have sm1 : small 17417 = true := by decide
  have sm2 : small 40277 = true := by decide
  have sm3 : small 1 = true := by decide
  have sm0 : small 0 = true := by decide
  obtain ⟨A, eabs⟩ : ∃ A, absD (.int c) = some (.sh (.int A)) := ⟨_, rfl⟩
  by_cases z : (1000000000000000000 : Int) ≤ A
  · refine ⟨boxO A ((c % 2147483629 + 17417 * kk + 37) * 40277 % 2147483549) 0, ?_, _, _, _, rfl, Int.emod_nonneg _ (by decide), Int.emod_lt_of_pos _ (by decide), by decide, by decide⟩
    simp [sm1, sm2, sm3, boxO, z, eabs, -absD_r]
  · refine ⟨boxO 0 ((c % 2147483629 + 17417 * kk + 37) * 40277 % 2147483549) 0, ?_, _, _, _, rfl, Int.emod_nonneg _ (by decide), Int.emod_lt_of_pos _ (by decide), by decide, by decide⟩
    simp [sm1, sm2, sm0, boxO, z, eabs, -absD_r]
theorem boxed0 {a : D} {kk L c : Int} (el : lenD a = some (.sh (.int L))) (h2 : kk < L) (ea : oIx (.sh a) (.sh (.int kk)) = some (.sh (.int c))) : ∃ b, C_l_box.run [.sh a, .sh (.int kk)] = .ok b [] ∧ BX b 0 := by
  obtain ⟨b, e, hb⟩ := box_key (a := a) c kk
  refine ⟨b, run_rt (s2 := [some (.sh a), some (.sh (.int kk)), some (.sh (.int c))]) (s3 := [some (.sh a), some (.sh (.int kk)), some (.sh (.int c))]) ?_ rfl, hb⟩
  simp only [d2_sh] at ea
  unfold fb_l_box
  generalize sRet _ = tail at e ⊢
  simp [h2, el, ea, e, -ixD_r]
theorem boxed1 {a : D} {kk L : Int} (el : lenD a = some (.sh (.int L))) (h2 : ¬ kk < L) : ∃ b, C_l_box.run [.sh a, .sh (.int kk)] = .ok b [] ∧ BX b 0 := by
  obtain ⟨b, e, hb⟩ := box_key (a := a) 0 kk
  refine ⟨b, run_rt (s2 := [some (.sh a), some (.sh (.int kk)), some (.sh (.int 0))]) (s3 := [some (.sh a), some (.sh (.int kk)), some (.sh (.int 0))]) ?_ rfl, hb⟩
  unfold fb_l_box
  generalize sRet _ = tail at e ⊢
  simp [h2, el, e]
theorem boxed {ns : List Int} {k : Nat} : ∃ b, C_l_box.run [.sh (.scr ns), .sh (.int (k : Int))] = .ok b [] ∧ BX b 0 := by
  by_cases h : k < ns.length
  · refine boxed0 (lenD_scr ns) (by omega) (c := ns[k]) ?_
    have ea : atI (ns.map D.int) (k : Int) = some (.int ns[k]) := atI_nat (by rw [List.getElem?_map, List.getElem?_eq_getElem h]; rfl)
    show (atI (ns.map D.int) (k : Int)).map O.sh = _
    rw [ea]
    rfl
  · exact boxed1 (lenD_scr ns) (by omega)
/-! ### what equals itself -/
theorem same_self : ∀ (k : Nat) (d : D), plN k d = true → k ≤ 50 → (C_l_same (k + 1)).run [.sh d, .sh d] = .ok (.sh (.bl true)) []
  | 0, d, h, hk => by
    show (mkC 2 2 [] (fb_l_same (C_l_same 0))).run _ = _
    have e := eqD_self h (by omega)
    refine run_rt (s2 := [some (.sh d), some (.sh d), none, none]) (s3 := [some (.sh d), some (.sh d), none, none]) ?_ rfl
    cases d <;> simp [plN] at h <;> simp [fb_l_same, isiT, e]
  | k + 1, d, h, hk => by
    show (mkC 2 2 [] (fb_l_same (C_l_same (k + 1)))).run _ = _
    have e := eqD_self h (by omega)
    refine run_rt (s2 := [some (.sh d), some (.sh d), none, none]) (s3 := [some (.sh d), some (.sh d), none, none]) ?_ rfl
    have kids : ∀ (ds : List D) (a : D), (∀ x ∈ ds, plN k x = true) → ds.length ≤ 99999 → lcL [2, 3] (gT 2 (gsC (gN 2) (gsC (gN 3) gsN))) tY (eCall (C_l_same (k + 1)) (rV (eVar 2) (rV (eVar 3) rN))) (zipD ds ds) [] [some (.sh a), some (.sh a), none, none] = .ok (.lst ((List.range (zipD ds ds).length).map fun _ => .sh (.bl true))) [some (.sh a), some (.sh a), none, none] := fun ds a hp hl => by
      refine lcL_st (fun _ => [some (.sh a), some (.sh a), none, none]) (fun _ => .sh (.bl true)) (zipD ds ds) (by rw [zipD_len]; omega) fun i x hx => ?_
      obtain ⟨d, hd, rfl⟩ := zip_self_get ds i hx
      have ih := same_self k d (hp d (List.mem_of_getElem? hd)) (by omega)
      simp [ih]
    have allt : ∀ n : Nat, allD (.lst (toDs ((List.range n).map fun _ => O.sh (.bl true)))) = some (.sh (.bl true)) := fun n => by
      have e1 : toDs ((List.range n).map fun _ => O.sh (.bl true)) = (List.replicate n true).map D.bl := by
        rw [toDs_mapf fun _ => D.bl true]
        simp [List.map_const']
      rw [e1]
      unfold allD
      dsimp only
      rw [boolsOf_map]
      simp
    cases d with
    | lst ds =>
      simp only [plN, List.all_eq_true, Bool.and_eq_true, decide_eq_true_eq] at h
      have kz := kids ds (.lst ds) h.2 (by omega)
      have az := allt (zipD ds ds).length
      simp [fb_l_same, isiT, zipB, kz, az]
    | tup ds =>
      simp only [plN, List.all_eq_true, Bool.and_eq_true, decide_eq_true_eq] at h
      have kz := kids ds (.tup ds) h.2 (by omega)
      have az := allt (zipD ds ds).length
      simp [fb_l_same, isiT, zipB, kz, az]
    | non => simp [fb_l_same, isiT, e]
    | bl b => simp [fb_l_same, isiT, e]
    | int b => simp [fb_l_same, isiT, e]
    | str b => simp [fb_l_same, isiT, e]
    | _ => simp [plN] at h
end K70
end

section
namespace K70
open PySem PySem.Spec PyProof.Rows L2 TX
/-! ### random nestings -/
def prD (es : List (Nat × Nat)) : List D := es.map fun e => D.tup [.int (e.1 : Nat), .int (e.2 : Nat)]
theorem prD_app (a b : List (Nat × Nat)) : prD (a ++ b) = prD a ++ prD b := by unfold prD; rw [List.map_append]
theorem top_ex {v : Nat → Int} : ∀ (d a : Nat), ∃ t, a ≤ t ∧ t ≤ a + d ∧ ∀ y, a ≤ y → y ≤ a + d → v y ≤ v t
  | 0, a => ⟨a, Nat.le_refl _, Nat.le_refl _, fun y h1 h2 => by rw [show y = a by omega]; exact Int.le_refl _⟩
  | d + 1, a => by
    obtain ⟨t, h1, h2, h3⟩ := top_ex (v := v) d a
    by_cases z : v t < v (a + d + 1)
    · refine ⟨a + d + 1, by omega, by omega, fun y y1 y2 => ?_⟩
      by_cases e : y = a + d + 1
      · rw [e]; exact Int.le_refl _
      · have := h3 y y1 (by omega)
        omega
    · refine ⟨t, h1, by omega, fun y y1 y2 => ?_⟩
      by_cases e : y = a + d + 1
      · rw [e]; omega
      · exact h3 y y1 (by omega)
def wB (R : Con) : FS := sEnd [8, 9] (sSeq (sAsg (eOp oAdd (eVar 6) (eCall (C_l_take 2) (rL 0 (rV (eOp oAdd (eOp oSub (eVar 7) (eVar 6)) (eK (.int 1))) rN)))) (gN 8))
  (sSeq (sAsg (eCall R (rL 0 (rV (eVar 1) (rV (eVar 6) (rV (eVar 8) rN))))) (gN 9))
  (sSeq (sAsg (eOp oAdd (eOp oAdd (eVar 5) (eVar 9)) (eLst (aC (eTup (aC (eCall C_l_top (rV (eVar 1) (rV (eLr2 (eVar 6) (eOp oAdd (eVar 8) (eK (.int 1)))) rN))) (aC (eVar 4) aN))) aN))) (gN 5))
  (sAsg (eOp oAdd (eVar 8) (eK (.int 1))) (gN 6)))))
def wT : FT := eB (eOp oLe (eVar 6) (eVar 7))
theorem wT_go {s0 s1 s2 s3 s4 s5 s8 s9 : Option O} {a e : Int} {b : Bool} (h : decide (a ≤ e) = b) : wT [s0, s1, s2, s3, s4, s5, some (.sh (.int a)), some (.sh (.int e)), s8, s9] = .ok b [s0, s1, s2, s3, s4, s5, some (.sh (.int a)), some (.sh (.int e)), s8, s9] := by
  unfold wT
  simp [h]
theorem wB_go {Rk : Con} (rn : Rk.n = 4) (rf : Rk.fx = [0]) {b b1 b2 : O} {row : D} {s2 s3 : Option O} {T a e s r fr t : Int} {fd ps ds : List D} (hs : e - a + 1 = s) (e1 : (C_l_take 2).run [b, .sh (.int s)] = .ok (.sh (.int r)) [b1]) (hf : a + r = fr) (e2 : Rk.run [b1, .sh row, .sh (.int a), .sh (.int fr)] = .ok (.lst (ps.map O.sh)) [b2])
    (a1 : small5 a = true) (a2 : small5 (fr + 1) = true) (hd : rngD a (fr + 1 - a).toNat = ds) (e3 : C_l_top.run [.sh row, .sh (.lst ds)] = .ok (.sh (.int t)) []) (hl : fd.length + ps.length ≤ 1000) :
    wB Rk [some b, some (.sh row), s2, s3, some (.sh (.int T)), some (.lst (fd.map O.sh)), some (.sh (.int a)), some (.sh (.int e)), none, none] = .ok .nx [some b2, some (.sh row), s2, s3, some (.sh (.int T)), some (.lst ((fd ++ ps ++ [D.tup [.int t, .int T]]).map O.sh)), some (.sh (.int (fr + 1))), some (.sh (.int e)), none, none] := by
  have k1 : toDs (List.map O.sh fd) = fd := toDs_map _
  have k2 : toDs (List.map O.sh ps) = ps := toDs_map _
  have k3 : toDs (List.map O.sh ds) = ds := toDs_map _
  have l1 : fd.length + ps.length ≤ 100000 := by omega
  have l2 : fd.length + ps.length + 1 ≤ 100000 := by omega
  have A1 : addD (.lst fd) (.lst ps) = some (.lst ((fd ++ ps).map O.sh)) := by rw [addD_l, if_pos l1]
  have A2 : addD (.lst (fd ++ ps)) (.lst [.tup [.int t, .int T]]) = some (.lst ((fd ++ ps ++ [D.tup [.int t, .int T]]).map O.sh)) := by rw [addD_l, if_pos (by rw [List.length_append]; exact l2)]
  have k4 : toDs (List.map O.sh (fd ++ ps)) = fd ++ ps := toDs_map _
  unfold wB
  have h1 : sAsg (eOp oAdd (eVar 6) (eCall (C_l_take 2) (rL 0 (rV (eOp oAdd (eOp oSub (eVar 7) (eVar 6)) (eK (.int 1))) rN)))) (gN 8) [some b, some (.sh row), s2, s3, some (.sh (.int T)), some (.lst (fd.map O.sh)), some (.sh (.int a)), some (.sh (.int e)), none, none] = .ok .nx [some b1, some (.sh row), s2, s3, some (.sh (.int T)), some (.lst (fd.map O.sh)), some (.sh (.int a)), some (.sh (.int e)), some (.sh (.int fr)), none] := by simp [hs, e1, hf]
  have h2 : sAsg (eCall Rk (rL 0 (rV (eVar 1) (rV (eVar 6) (rV (eVar 8) rN))))) (gN 9) [some b1, some (.sh row), s2, s3, some (.sh (.int T)), some (.lst (fd.map O.sh)), some (.sh (.int a)), some (.sh (.int e)), some (.sh (.int fr)), none] = .ok .nx [some b2, some (.sh row), s2, s3, some (.sh (.int T)), some (.lst (fd.map O.sh)), some (.sh (.int a)), some (.sh (.int e)), some (.sh (.int fr)), some (.lst (ps.map O.sh))] := by simp [e2, rn, rf]
  have h3 : sAsg (eOp oAdd (eOp oAdd (eVar 5) (eVar 9)) (eLst (aC (eTup (aC (eCall C_l_top (rV (eVar 1) (rV (eLr2 (eVar 6) (eOp oAdd (eVar 8) (eK (.int 1)))) rN))) (aC (eVar 4) aN))) aN))) (gN 5) [some b2, some (.sh row), s2, s3, some (.sh (.int T)), some (.lst (fd.map O.sh)), some (.sh (.int a)), some (.sh (.int e)), some (.sh (.int fr)), some (.lst (ps.map O.sh))] = .ok .nx [some b2, some (.sh row), s2, s3, some (.sh (.int T)), some (.lst ((fd ++ ps ++ [D.tup [.int t, .int T]]).map O.sh)), some (.sh (.int a)), some (.sh (.int e)), some (.sh (.int fr)), some (.sh (.lst ps))] := by
    simp [k1, k2, k3, k4, A1, A2, a1, a2, hd, e3, -addD_l, -List.map_append, -List.append_assoc]
  have h4 : sAsg (eOp oAdd (eVar 8) (eK (.int 1))) (gN 6) [some b2, some (.sh row), s2, s3, some (.sh (.int T)), some (.lst ((fd ++ ps ++ [D.tup [.int t, .int T]]).map O.sh)), some (.sh (.int a)), some (.sh (.int e)), some (.sh (.int fr)), some (.sh (.lst ps))] = .ok .nx [some b2, some (.sh row), s2, s3, some (.sh (.int T)), some (.lst ((fd ++ ps ++ [D.tup [.int t, .int T]]).map O.sh)), some (.sh (.int (fr + 1))), some (.sh (.int e)), some (.sh (.int fr)), some (.sh (.lst ps))] := by simp [-List.map_append, -List.append_assoc]
  rw [sEnd_r, seq_nx h1 (seq_nx h2 (seq_nx h3 h4))]
  rfl
section
variable {row : D} {n : Nat} {v : Nat → Int} (R : RowV row n v)
include R
theorem top_run {a b : Nat} (h : a ≤ b) (hb : b < n) (hn : n ≤ 12) : ∃ t : Nat, C_l_top.run [.sh row, .sh (.lst (cI (iv a b)))] = .ok (.sh (.int (t : Nat))) [] ∧ a ≤ t ∧ t ≤ b ∧ ∀ y, a ≤ y → y ≤ b → y ≠ t → v y < v t := by
  obtain ⟨t, h1, h2, h3⟩ := top_ex (v := v) (b - a) a
  refine ⟨t, top R (fun x hx => ?_) (by unfold iv; simp; omega) (mem_iv.mpr ⟨h1, by omega⟩) (fun y hy => ?_), h1, by omega, fun y y1 y2 y3 => ?_⟩
  · have := (mem_iv.mp hx).2
    omega
  · have := mem_iv.mp hy
    exact h3 y this.1 (by omega)
  · have := h3 y y1 (by omega)
    have ne : v y ≠ v t := fun e => y3 (R.inj y t (by omega) (by omega) e)
    omega
omit R in
theorem rng_iv {a b : Nat} (h : a ≤ b) : rngD (a : Int) ((b : Int) + 1 - (a : Int)).toNat = cI (iv a b) := by
  unfold rngD cI iv
  rw [List.map_map, show ((b : Int) + 1 - (a : Int)).toNat = b + 1 - a by omega]
  refine List.map_congr_left fun i _ => ?_
  show D.int ((a : Int) + (i : Int)) = D.int ((a + i : Nat) : Int)
  exact congrArg D.int (by omega)
def WildOk (k : Nat) : Prop := ∀ (a b : Nat) (x : O) (m : Int), a ≤ b → b < n → b - a < k → BX x m → m + 10 * ((b - a : Nat) : Int) ≤ 800000000 → ∃ (es : List (Nat × Nat)) (x' : O), (C_l_wild k).run [x, .sh row, .sh (.int (a : Nat)), .sh (.int (b : Nat))] = .ok (.lst ((prD es).map O.sh)) [x'] ∧ es.length = b - a ∧ (∀ e ∈ es, e.1 < n ∧ e.2 < n ∧ Up v e.1 e.2) ∧ BX x' (m + 2 * ((b - a : Nat) : Int))
omit R in
theorem one_side (R : RowV row n v) {k : Nat} (IH : WildOk (row := row) (n := n) (v := v) k) (hn : n ≤ 12) {F Z T : Nat} {s2 s3 : Option O} (hF : F ≤ T) (hT : T ≤ Z) (hZ : Z < n) (hk : Z - F < k + 1) (big : ∀ y, F ≤ y → y ≤ Z → y ≠ T → v y < v T) : ∀ (d a e1 : Nat) (x : O) (m : Int) (fd : List (Nat × Nat)), e1 - a = d → a ≤ e1 → F ≤ a → e1 ≤ Z + 1 → (∀ y, a ≤ y → y < e1 → y ≠ T) → (∀ y, a ≤ y → y < e1 → y - a < k) → (e1 - a ≤ k) → BX x m → m + 10 * ((e1 - a : Nat) : Int) ≤ 800000000 → fd.length + (e1 - a) ≤ 100 → ∀ w, d < w →
    ∃ (es : List (Nat × Nat)) (x' : O) (a2 : Nat), whL wT (wB (C_l_wild k)) w [some x, some (.sh row), s2, s3, some (.sh (.int (T : Nat))), some (.lst ((prD fd).map O.sh)), some (.sh (.int (a : Nat))), some (.sh (.int ((e1 : Int) - 1))), none, none] = .ok .nx [some x', some (.sh row), s2, s3, some (.sh (.int (T : Nat))), some (.lst ((prD (fd ++ es)).map O.sh)), some (.sh (.int (a2 : Nat))), some (.sh (.int ((e1 : Int) - 1))), none, none] ∧ es.length = e1 - a ∧ (∀ e ∈ es, e.1 < n ∧ e.2 < n ∧ Up v e.1 e.2) ∧ BX x' (m + 2 * ((e1 - a : Nat) : Int)) := by
  intro d
  induction d using Nat.strongRecOn with
  | ind d ih =>
    intro a e1 x m fd hd ha hFa he hnt hyk hkk hb hm hl w hw
    obtain ⟨w, rfl⟩ : ∃ j, w = j + 1 := ⟨w - 1, by omega⟩
    by_cases z : a = e1
    · refine ⟨[], x, a, ?_, (by simp; omega), fun e he => (by cases he), hb.mono (by omega)⟩
      rw [List.append_nil]
      exact whL_stop (wT_go (b := false) (decide_eq_false (by omega)))
    · have tt := wT_go (s0 := some x) (s1 := some (.sh row)) (s2 := s2) (s3 := s3) (s4 := some (.sh (.int (T : Nat)))) (s5 := some (.lst ((prD fd).map O.sh))) (s8 := none) (s9 := none) (a := (a : Nat)) (e := (e1 : Int) - 1) (b := true) (decide_eq_true (by omega))
      obtain ⟨r, x1, t1, r0, r1, hb1⟩ := take (s := ((e1 - a : Nat) : Int)) hb (by omega) (by omega) (by omega)
      obtain ⟨r, rfl⟩ := Int.eq_ofNat_of_zero_le r0
      have rl : r < e1 - a := by omega
      obtain ⟨es1, x2, t2, l2, g2, hb2⟩ := IH a (a + r) x1 (m + 2) (by omega) (by omega) (by omega) hb1 (by omega)
      obtain ⟨t, t3, tl, tu, tb⟩ := top_run R (a := a) (b := a + r) (by omega) (by omega) hn
      have go := wB_go (Rk := C_l_wild k) (by simp) (by simp) (b := x) (b1 := x1) (b2 := x2) (row := row) (s2 := s2) (s3 := s3) (T := (T : Nat)) (a := (a : Nat)) (e := (e1 : Int) - 1) (s := ((e1 - a : Nat) : Int)) (r := (r : Nat)) (fr := ((a + r : Nat) : Int)) (fd := prD fd) (ps := prD es1) (by omega) t1 (by omega) t2 (small5_of (by omega) (by omega)) (small5_of (by omega) (by omega)) (rng_iv (by omega)) t3 (by unfold prD; rw [List.length_map, List.length_map]; omega)
      have ec : prD fd ++ prD es1 ++ [D.tup [.int (t : Nat), .int (T : Nat)]] = prD (fd ++ es1 ++ [(t, T)]) := by rw [prD_app, prD_app]; rfl
      rw [ec, show ((a + r : Nat) : Int) + 1 = ((a + r + 1 : Nat) : Int) by omega] at go
      obtain ⟨es2, x3, a2, t4, l4, g4, hb4⟩ := ih (e1 - (a + r + 1)) (by omega) (a + r + 1) e1 x2 (m + 2 + 2 * ((a + r - a : Nat) : Int)) (fd ++ es1 ++ [(t, T)]) rfl (by omega) (by omega) he (fun y y1 y2 => hnt y (by omega) y2) (fun y y1 y2 => by have := hyk y (by omega) y2; omega) (by omega) hb2 (by omega) (by rw [List.length_append, List.length_append, List.length_singleton]; omega) w (by omega)
      refine ⟨es1 ++ [(t, T)] ++ es2, x3, a2, (whL_step tt go).trans (t4.trans ?_), by rw [List.length_append, List.length_append, List.length_singleton]; omega, fun e he => ?_, hb4.mono (by omega)⟩
      · rw [List.append_assoc fd, List.append_assoc fd, List.append_assoc es1]
      · rcases List.mem_append.mp he with he | he
        · rcases List.mem_append.mp he with he | he
          · exact g2 e he
          · rw [List.mem_singleton] at he
            subst he
            have tn : t ≠ T := hnt t (by omega) (by omega)
            refine ⟨by dsimp only; omega, by dsimp only; omega, ?_⟩
            by_cases q : t < T
            · exact .inl ⟨q, fun y y1 y2 => big y (by omega) (by omega) (by omega)⟩
            · exact .inr ⟨by dsimp only; omega, fun y y1 y2 => big y (by omega) (by omega) (by omega)⟩
        · exact g4 e he
end
end K70
end

section
namespace K70
open PySem PySem.Spec PyProof.Rows L2 TX
def wF (Rk : Con) : FS := sEnd [6, 7, 8, 9] (sWh fuel wT (wB Rk))
theorem wF_go {Rk : Con} {s0 s1 s2 s3 s4 t0 f g : Option O} {a e : Int} {x y : O} (lp : whL wT (wB Rk) fuel [s0, s1, s2, s3, s4, f, some (.sh (.int a)), some (.sh (.int e)), none, none] = .ok .nx [t0, s1, s2, s3, s4, g, some x, some y, none, none]) : ((gT 2 (gsC (gN 6) (gsC (gN 7) gsN))) (.sh (.tup [.int a, .int e])) [s0, s1, s2, s3, s4, f, none, none, none, none]).bind (fun _ s => wF Rk s) = .ok .nx [t0, s1, s2, s3, s4, g, none, none, none, none] := by
  unfold wF
  generalize wB Rk = bb at lp ⊢
  generalize wT = tt at lp ⊢
  simp [sWh, lp]
theorem wild0 {Rk : Con} {x0 x1 x2 : O} {row : D} {a b T : Int} {ds : List D} {g1 g2 : O} {u1 u2 u3 u4 : O} (a1 : small5 a = true) (a2 : small5 (b + 1) = true) (hd : rngD a (b + 1 - a).toNat = ds) (et : C_l_top.run [.sh row, .sh (.lst ds)] = .ok (.sh (.int T)) [])
    (lp1 : whL wT (wB Rk) fuel [some x0, some (.sh row), some (.sh (.int a)), some (.sh (.int b)), some (.sh (.int T)), some (.lst []), some (.sh (.int a)), some (.sh (.int (T - 1))), none, none] = .ok .nx [some x1, some (.sh row), some (.sh (.int a)), some (.sh (.int b)), some (.sh (.int T)), some g1, some u1, some u2, none, none])
    (lp2 : whL wT (wB Rk) fuel [some x1, some (.sh row), some (.sh (.int a)), some (.sh (.int b)), some (.sh (.int T)), some g1, some (.sh (.int (T + 1))), some (.sh (.int b)), none, none] = .ok .nx [some x2, some (.sh row), some (.sh (.int a)), some (.sh (.int b)), some (.sh (.int T)), some g2, some u3, some u4, none, none]) :
    (mkC 4 6 [0] (fb_l_wild Rk)).run [x0, .sh row, .sh (.int a), .sh (.int b)] = .ok g2 [x2] := by
  refine run_rt (s2 := [some x2, some (.sh row), some (.sh (.int a)), some (.sh (.int b)), some (.sh (.int T)), none, none, none, none, none]) (s3 := [none, some (.sh row), some (.sh (.int a)), some (.sh (.int b)), some (.sh (.int T)), none, none, none, none, none]) ?_ rfl
  have k3 : toDs (List.map O.sh ds) = ds := toDs_map _
  have w1 := wF_go lp1
  have w2 := wF_go lp2
  unfold fb_l_wild
  have ew : (sEnd [6, 7, 8, 9] (sWh fuel (eB (eOp oLe (eVar 6) (eVar 7))) (sEnd [8, 9] (sSeq (sAsg (eOp oAdd (eVar 6) (eCall (C_l_take 2) (rL 0 (rV (eOp oAdd (eOp oSub (eVar 7) (eVar 6)) (eK (.int 1))) rN)))) (gN 8))
  (sSeq (sAsg (eCall Rk (rL 0 (rV (eVar 1) (rV (eVar 6) (rV (eVar 8) rN))))) (gN 9))
  (sSeq (sAsg (eOp oAdd (eOp oAdd (eVar 5) (eVar 9)) (eLst (aC (eTup (aC (eCall C_l_top (rV (eVar 1) (rV (eLr2 (eVar 6) (eOp oAdd (eVar 8) (eK (.int 1)))) rN))) (aC (eVar 4) aN))) aN))) (gN 5))
  (sAsg (eOp oAdd (eVar 8) (eK (.int 1))) (gN 6)))))))) = wF Rk := rfl
  rw [ew]
  generalize wF Rk = ff at w1 w2 ⊢
  generalize (gT 2 _) = gg at w1 w2 ⊢
  have h1 : sPar [4, 5] (aC (eCall C_l_top (rV (eVar 1) (rV (eLr2 (eVar 2) (eOp oAdd (eVar 3) (eK (.int 1)))) rN))) (aC (eLst aN) aN)) [some x0, some (.sh row), some (.sh (.int a)), some (.sh (.int b)), none, none, none, none, none, none] = .ok .nx [some x0, some (.sh row), some (.sh (.int a)), some (.sh (.int b)), some (.sh (.int T)), some (.lst []), none, none, none, none] := by simp [a1, a2, hd, k3, et]
  have f1 : forL gg ff [.tup [.int a, .int (T - 1)], .tup [.int (T + 1), .int b]] [some x0, some (.sh row), some (.sh (.int a)), some (.sh (.int b)), some (.sh (.int T)), some (.lst []), none, none, none, none] = .ok .nx [some x2, some (.sh row), some (.sh (.int a)), some (.sh (.int b)), some (.sh (.int T)), some g2, none, none, none, none] := by
    have st : ∀ {d : D} {ds : List D} {s t : Sl}, ((gg (.sh d) s).bind fun _ s => ff s) = .ok .nx t → forL gg ff (d :: ds) s = forL gg ff ds t := fun {d ds s t} h => by
      show (gg (.sh d) s).bind _ = _
      cases hg : gg (.sh d) s with
      | bad => rw [hg] at h; cases h
      | ex x s => rw [hg] at h; cases h
      | ok u s1 =>
        rw [hg] at h
        show (ff s1).bind _ = _
        rw [show ff s1 = _ from h]
        rfl
    rw [st w1, st w2]
    rfl
  have h2 : sFor (iS (eTup (aC (eTup (aC (eVar 2) (aC (eOp oSub (eVar 4) (eK (.int 1))) aN))) (aC (eTup (aC (eOp oAdd (eVar 4) (eK (.int 1))) (aC (eVar 3) aN))) aN)))) gg ff [some x0, some (.sh row), some (.sh (.int a)), some (.sh (.int b)), some (.sh (.int T)), some (.lst []), none, none, none, none] = .ok .nx [some x2, some (.sh row), some (.sh (.int a)), some (.sh (.int b)), some (.sh (.int T)), some g2, none, none, none, none] := by simp [f1]
  have h3 : sRet (eMv 5) [some x2, some (.sh row), some (.sh (.int a)), some (.sh (.int b)), some (.sh (.int T)), some g2, none, none, none, none] = .ok (.rt g2) [some x2, some (.sh row), some (.sh (.int a)), some (.sh (.int b)), some (.sh (.int T)), none, none, none, none, none] := by simp
  exact seq_nx h1 (seq_nx h2 h3)
theorem wild {row : D} {n : Nat} {v : Nat → Int} (R : RowV row n v) (hn : n ≤ 12) : ∀ k, WildOk (row := row) (n := n) (v := v) k
  | 0 => fun a b x m h1 h2 h3 => by omega
  | k + 1 => fun a b x m h1 h2 h3 hb hm => by
    have IH := wild R hn k
    obtain ⟨T, t1, t2, t3, t4⟩ := top_run R h1 h2 hn
    obtain ⟨es1, x1, a2, l1, n1, g1, hb1⟩ := one_side R IH hn (F := a) (Z := b) (T := T) (s2 := some (.sh (.int (a : Nat)))) (s3 := some (.sh (.int (b : Nat)))) t2 t3 h2 (by omega) t4 (T - a) a T x m [] rfl t2 (Nat.le_refl _) (by omega) (fun y y1 y2 => by omega) (fun y y1 y2 => by omega) (by omega) hb (by omega) (by simp; omega) fuel (fuel_big (by omega))
    obtain ⟨es2, x2, a3, l2, n2, g2, hb2⟩ := one_side R IH hn (F := a) (Z := b) (T := T) (s2 := some (.sh (.int (a : Nat)))) (s3 := some (.sh (.int (b : Nat)))) t2 t3 h2 (by omega) t4 (b + 1 - (T + 1)) (T + 1) (b + 1) x1 (m + 2 * ((T - a : Nat) : Int)) ([] ++ es1) rfl (by omega) (by omega) (by omega) (fun y y1 y2 => by omega) (fun y y1 y2 => by omega) (by omega) hb1 (by omega) (by simp; omega) fuel (fuel_big (by omega))
    refine ⟨[] ++ es1 ++ es2, x2, wild0 (T := (T : Nat)) (u3 := .sh (.int (a3 : Nat))) (u4 := .sh (.int (b : Nat))) (small5_of (by omega) (by omega)) (small5_of (by omega) (by omega)) (rng_iv h1) t1 l1 ?_, by simp; omega, fun e he => ?_, hb2.mono (by omega)⟩
    · rw [show ((b + 1 : Nat) : Int) - 1 = (b : Int) by omega, show ((T + 1 : Nat) : Int) = (T : Int) + 1 by omega] at l2
      exact l2
    · rw [List.nil_append] at he
      rcases List.mem_append.mp he with he | he
      · exact g1 e he
      · exact g2 e he
/-! ### a nesting of them -/
def hset : List (Nat × Nat) → (Nat → Option Nat) → Nat → Option Nat
  | [], h => h
  | e :: es, h => hset es fun i => if i = e.1 then some e.2 else h i
theorem hset_mem : ∀ (es : List (Nat × Nat)) (h : Nat → Option Nat) (i k : Nat), hset es h i = some k → (i, k) ∈ es ∨ h i = some k
  | [], h, i, k, e => .inr e
  | p :: es, h, i, k, e => by
    rcases hset_mem es _ i k e with q | q
    · exact .inl (List.mem_cons_of_mem _ q)
    · by_cases z : i = p.1
      · rw [if_pos z] at q
        cases q
        exact .inl (by rw [z]; exact List.mem_cons_self)
      · rw [if_neg z] at q
        exact .inr q
def snB : FS := sEnd [6, 7] (sAsg (eVar 7) (gSt 3 (eVar 6)))
theorem sn_go {s0 s1 s2 s4 s5 : Option O} {a b : Int} {j : Nat} {os : List O} (e : ixN os.length a = some j) : ((gT 2 (gsC (gN 6) (gsC (gN 7) gsN))) (.sh (.tup [.int a, .int b])) [s0, s1, s2, some (.lst os), s4, s5, none, none]).bind (fun _ s => snB s) = .ok .nx [s0, s1, s2, some (.lst (os.set j (.sh (.int b)))), s4, s5, none, none] := by
  unfold snB
  simp [e]
theorem sn_loop {s0 s1 s2 s4 s5 : Option O} {n : Nat} : ∀ (es : List (Nat × Nat)) (h : Nat → Option Nat), (∀ e ∈ es, e.1 < n) → forL (gT 2 (gsC (gN 6) (gsC (gN 7) gsN))) snB (prD es) [s0, s1, s2, some (.lst ((arr n h).map O.sh)), s4, s5, none, none] = .ok .nx [s0, s1, s2, some (.lst ((arr n (hset es h)).map O.sh)), s4, s5, none, none]
  | [], h, hx => rfl
  | e :: es, h, hx => by
    have lt := hx e List.mem_cons_self
    have t := sn_go (s0 := s0) (s1 := s1) (s2 := s2) (s4 := s4) (s5 := s5) (a := (e.1 : Nat)) (b := (e.2 : Nat)) (os := (arr n h).map O.sh) (ixN_nat (by rw [List.length_map, arr_len]; exact lt))
    have es' : ((arr n h).map O.sh).set e.1 (.sh (.int (e.2 : Nat))) = (arr n (fun i => if i = e.1 then some e.2 else h i)).map O.sh := by
      rw [show (O.sh (.int (e.2 : Nat))) = O.sh (D.int ((e.2 : Nat) : Int)) from rfl, ← List.map_set, arr_set lt]
    rw [es'] at t
    exact (forL_step (s1 := [s0, s1, s2, some (.lst ((arr n h).map O.sh)), s4, s5, some (.sh (.int (e.1 : Nat))), some (.sh (.int (e.2 : Nat)))]) rfl t).trans (sn_loop es _ fun e he => hx e (List.mem_cons_of_mem _ he))
theorem sn0 {x0 x1 : O} {row : D} {L : Int} {nn ps fin : List D} {os : List O} (el : lenD row = some (.sh (.int L))) (h0 : 0 < L) (mu : mulD (.lst [.non]) (.int L) = some (.lst (nn.map O.sh))) (ew : (C_l_wild 13).run [x0, .sh row, .sh (.int 0), .sh (.int (L - 1))] = .ok (.lst (ps.map O.sh)) [x1])
    (lp : forL (gT 2 (gsC (gN 6) (gsC (gN 7) gsN))) snB ps [some x1, some (.sh row), some (.sh (.int 0)), some (.lst (nn.map O.sh)), some (.sh (.int 0)), some (.sh (.int (L - 1))), none, none] = .ok .nx [some x1, some (.sh row), some (.sh (.int 0)), some (.lst os), some (.sh (.int 0)), some (.sh (.int (L - 1))), none, none]) (hf : toDs os = fin) : C_l_some_nest.run [x0, .sh row, .sh (.int 0)] = .ok (.sh (.tup fin)) [x1] := by
  refine run_rt (s2 := [some x1, some (.sh row), some (.sh (.int 0)), some (.sh (.lst fin)), some (.sh (.int L)), none, none, none]) (s3 := [none, some (.sh row), some (.sh (.int 0)), some (.sh (.lst fin)), some (.sh (.int L)), none, none, none]) ?_ rfl
  have k3 : toDs (List.map O.sh ps) = ps := toDs_map _
  unfold snB at lp
  unfold fb_l_some_nest
  generalize sEnd [6, 7] _ = body at lp ⊢
  generalize (gT 2 _) = gg at lp ⊢
  have e1 : eOp oMul (eLst (aC (eK .non) aN)) (eCB (c1 lenD) (aC (eVar 1) aN)) [some x0, some (.sh row), some (.sh (.int 0)), none, none, none, none, none] = .ok (.lst (nn.map O.sh)) [some x0, some (.sh row), some (.sh (.int 0)), none, none, none, none, none] := by simp [el, mu]
  generalize (eOp oMul _ _) = f1 at e1 ⊢
  have h1 : sPar [3, 4] (aC f1 (aC (eK (.int 0)) aN)) [some x0, some (.sh row), some (.sh (.int 0)), none, none, none, none, none] = .ok .nx [some x0, some (.sh row), some (.sh (.int 0)), some (.lst (nn.map O.sh)), some (.sh (.int 0)), none, none, none] := by simp [e1]
  have q1 : sAsg (eIf (eB (eOp oEq (eVar 2) (eK (.int 0)))) (eOp oSub (eCB (c1 lenD) (aC (eVar 1) aN)) (eK (.int 1))) (eOp oAdd (eVar 4) (eCall (C_l_take 2) (rL 0 (rV (eOp oSub (eCB (c1 lenD) (aC (eVar 1) aN)) (eVar 4)) rN))))) (gN 5) [some x0, some (.sh row), some (.sh (.int 0)), some (.lst (nn.map O.sh)), some (.sh (.int 0)), none, none, none] = .ok .nx [some x0, some (.sh row), some (.sh (.int 0)), some (.lst (nn.map O.sh)), some (.sh (.int 0)), some (.sh (.int (L - 1))), none, none] := by simp [el]
  have q2 : sFor (iS (eCall (C_l_wild 13) (rL 0 (rV (eVar 1) (rV (eVar 4) (rV (eVar 5) rN)))))) gg body [some x0, some (.sh row), some (.sh (.int 0)), some (.lst (nn.map O.sh)), some (.sh (.int 0)), some (.sh (.int (L - 1))), none, none] = .ok .nx [some x1, some (.sh row), some (.sh (.int 0)), some (.lst os), some (.sh (.int 0)), some (.sh (.int (L - 1))), none, none] := by simp [ew, k3, lp]
  have q3 : sAsg (eOp oAdd (eVar 5) (eK (.int 1))) (gN 4) [some x1, some (.sh row), some (.sh (.int 0)), some (.lst os), some (.sh (.int 0)), some (.sh (.int (L - 1))), none, none] = .ok .nx [some x1, some (.sh row), some (.sh (.int 0)), some (.lst os), some (.sh (.int L)), some (.sh (.int (L - 1))), none, none] := by
    have : L - 1 + 1 = L := by omega
    simp [this]
  have q4 : sEnd [5, 6, 7] (sSeq (sAsg (eIf (eB (eOp oEq (eVar 2) (eK (.int 0)))) (eOp oSub (eCB (c1 lenD) (aC (eVar 1) aN)) (eK (.int 1))) (eOp oAdd (eVar 4) (eCall (C_l_take 2) (rL 0 (rV (eOp oSub (eCB (c1 lenD) (aC (eVar 1) aN)) (eVar 4)) rN))))) (gN 5)) (sSeq (sFor (iS (eCall (C_l_wild 13) (rL 0 (rV (eVar 1) (rV (eVar 4) (rV (eVar 5) rN)))))) gg body) (sAsg (eOp oAdd (eVar 5) (eK (.int 1))) (gN 4)))) [some x0, some (.sh row), some (.sh (.int 0)), some (.lst (nn.map O.sh)), some (.sh (.int 0)), none, none, none] = .ok .nx [some x1, some (.sh row), some (.sh (.int 0)), some (.lst os), some (.sh (.int L)), none, none, none] := by
    rw [sEnd_r, seq_nx q1 (seq_nx q2 q3)]
    rfl
  generalize sEnd [5, 6, 7] _ = bb at q4 ⊢
  have t1 : (eB (eOp oLt (eVar 4) (eCB (c1 lenD) (aC (eVar 1) aN)))) [some x0, some (.sh row), some (.sh (.int 0)), some (.lst (nn.map O.sh)), some (.sh (.int 0)), none, none, none] = .ok true [some x0, some (.sh row), some (.sh (.int 0)), some (.lst (nn.map O.sh)), some (.sh (.int 0)), none, none, none] := by simp [el, h0]
  have t2 : (eB (eOp oLt (eVar 4) (eCB (c1 lenD) (aC (eVar 1) aN)))) [some x1, some (.sh row), some (.sh (.int 0)), some (.lst os), some (.sh (.int L)), none, none, none] = .ok false [some x1, some (.sh row), some (.sh (.int 0)), some (.lst os), some (.sh (.int L)), none, none, none] := by simp [el]
  obtain ⟨w, hw⟩ : ∃ w, fuel = w + 1 + 1 := ⟨fuel - 2, by have : 5 < fuel := fuel_big (by omega); omega⟩
  have h2 : sWh fuel (eB (eOp oLt (eVar 4) (eCB (c1 lenD) (aC (eVar 1) aN)))) bb [some x0, some (.sh row), some (.sh (.int 0)), some (.lst (nn.map O.sh)), some (.sh (.int 0)), none, none, none] = .ok .nx [some x1, some (.sh row), some (.sh (.int 0)), some (.lst os), some (.sh (.int L)), none, none, none] := by
    rw [hw]
    exact (whL_step t1 q4).trans (whL_stop t2)
  have ht : tupleD (.lst fin) = some (.sh (.tup fin)) := rfl
  have h3 : sRet (eCB (c1 tupleD) (aC (eVar 3) aN)) [some x1, some (.sh row), some (.sh (.int 0)), some (.lst os), some (.sh (.int L)), none, none, none] = .ok (.rt (.sh (.tup fin))) [some x1, some (.sh row), some (.sh (.int 0)), some (.sh (.lst fin)), some (.sh (.int L)), none, none, none] := by simp [hf, ht]
  exact seq_nx h1 (seq_nx h2 h3)
theorem some_nest {row : D} {n : Nat} {v : Nat → Int} (R : RowV row n v) (hn : n ≤ 12) (h1 : 1 ≤ n) {x : O} {m : Int} (hb : BX x m) (hm : m + 200 ≤ 800000000) : ∃ (h : Nat → Option Nat) (x' : O), C_l_some_nest.run [x, .sh row, .sh (.int 0)] = .ok (.sh (.tup (arr n h))) [x'] ∧ (∀ i k, h i = some k → k < n ∧ Up v i k) ∧ BX x' (m + 100) := by
  obtain ⟨es, x', ew, hl, hg, hb'⟩ := wild R hn 13 0 (n - 1) x m (by omega) (by omega) (by omega) hb (by omega)
  refine ⟨hset es fun _ => none, x', sn0 (L := (n : Int)) R.el (by omega) (mul_non (by omega) (by omega)) (by rw [show (n : Int) - 1 = ((n - 1 : Nat) : Int) by omega]; exact ew) ?_ (toDs_map _), fun i k e => ?_, hb'.mono (by omega)⟩
  · rw [Int.toNat_natCast, ← arr_none]
    exact sn_loop es _ fun e he => (hg e he).1
  · rcases hset_mem es _ i k e with q | q
    · exact (hg _ q).2
    · cases q
end K70
end

section
namespace K70
open PySem PySem.Spec PyProof.Rows L2 TX
def natI (xs : List Nat) : List Int := xs.map fun x : Nat => (x : Int)
theorem cI_ints (xs : List Nat) : cI xs = (natI xs).map D.int := by unfold cI natI; rw [List.map_map]; rfl
theorem sort_eq {xs ys : List Int} (p : xs.Perm ys) (s : ys.Pairwise (· ≤ ·)) : sortI xs = ys :=
  List.Perm.eq_of_pairwise (le := (· ≤ ·)) (fun a b _ _ h1 h2 => Int.le_antisymm h1 h2) (sortI_sorted xs) s ((sortI_perm xs).trans p)
theorem ints_sorted {xs : List Nat} (h : xs.Pairwise (· < ·)) : (natI xs).Pairwise (· ≤ ·) := by
  unfold natI
  rw [List.pairwise_map]
  exact h.imp fun q => by omega
theorem sort_ints {xs ys : List Nat} (nx : xs.Nodup) (s : ys.Pairwise (· < ·)) (m : ∀ x, x ∈ xs ↔ x ∈ ys) : sortI (natI xs) = natI ys := by
  have ny : ys.Nodup := s.imp fun q => Nat.ne_of_lt q
  have p := (List.perm_ext_iff_of_nodup nx ny).mpr m
  exact sort_eq (p.map _) (ints_sorted s)
theorem hF_sorted (v : Nat → Int) (p k : Nat) : (hF v p k).Pairwise (· < ·) := by
  unfold hF
  exact List.Pairwise.filter _ List.pairwise_lt_range
section
variable {row : D} {n : Nat} {v : Nat → Int} (R : RowV row n v)
include R
theorem hF_mem {p q : Nat} (hp : p < n) : q ∈ hF v p n ↔ q < n ∧ Up v p q := by
  unfold hF
  rw [List.mem_filter, List.mem_range]
  constructor
  · rintro ⟨a, b⟩
    exact ⟨a, (hiB_up R hp a).mp b⟩
  · rintro ⟨a, b⟩
    exact ⟨a, (hiB_up R hp a).mpr b⟩
theorem holdersZ {p : Nat} (hp : p < n) (hn : n ≤ 12) : ∃ zs : List Nat, zs.Nodup ∧ (∀ z ∈ zs, z < n) ∧ C_holders.run [.sh row, .sh (.int p)] = .ok (.lst (((sortI (natI zs)).map D.int).map O.sh)) [] ∧ ∀ q : Nat, q < n → (q ∈ zs ↔ Up v p q) := by
  have a1 := rising R (p := p) ((List.range p).map fun i => p - 1 - i) hp (fun o ho => by
    obtain ⟨i, hi, rfl⟩ := List.mem_map.mp ho
    have := List.mem_range.mp hi
    omega) (by simp; omega)
  have a2 := rising R (p := p) ((List.range (n - 1 - p)).map fun i => p + 1 + i) hp (fun o ho => by
    obtain ⟨i, hi, rfl⟩ := List.mem_map.mp ho
    have := List.mem_range.mp hi
    omega) (by simp; omega)
  have c : ∀ os : List Nat, cI os = (os.map fun x : Nat => (x : Int)).map D.int := fun os => by unfold cI; rw [List.map_map]; rfl
  rw [c (recs _ _ _)] at a1 a2
  have len : ∀ (os : List Nat) (m : Int), (recs v m os).length ≤ os.length := by
    intro os
    induction os with
    | nil => intro m; exact Nat.le_refl _
    | cons o os ih =>
      intro m
      unfold recs
      split
      · have := ih (v o); simp; omega
      · have := ih m; simp; omega
  have nd1 : ((List.range p).map fun i => p - 1 - i).Nodup := by
    rw [List.Nodup, List.pairwise_map]
    refine List.Pairwise.imp_of_mem ?_ List.nodup_range
    intro a b ha hb hab
    have := List.mem_range.mp ha
    have := List.mem_range.mp hb
    omega
  have nd2 : ((List.range (n - 1 - p)).map fun i => p + 1 + i).Nodup := by
    rw [List.Nodup, List.pairwise_map]
    refine List.Pairwise.imp_of_mem ?_ List.nodup_range
    intro a b ha hb hab
    omega
  have sub : ∀ (os : List Nat) (m : Int), (recs v m os).Sublist os := by
    intro os
    induction os with
    | nil => intro m; exact List.Sublist.slnil
    | cons o os ih =>
      intro m
      unfold recs
      split
      · exact (ih (v o)).cons_cons o
      · exact (ih m).cons o
  have m1 : ∀ x ∈ recs v (v p) ((List.range p).map fun i => p - 1 - i), x < p := fun x hx => by
    obtain ⟨i, hi, rfl⟩ := List.mem_map.mp ((sub _ _).subset hx)
    have := List.mem_range.mp hi
    omega
  have m2 : ∀ x ∈ recs v (v p) ((List.range (n - 1 - p)).map fun i => p + 1 + i), p < x ∧ x < n := fun x hx => by
    obtain ⟨i, hi, rfl⟩ := List.mem_map.mp ((sub _ _).subset hx)
    have := List.mem_range.mp hi
    omega
  refine ⟨recs v (v p) ((List.range p).map fun i => p - 1 - i) ++ recs v (v p) ((List.range (n - 1 - p)).map fun i => p + 1 + i), ?_, fun z hz => ?_, (hold0 (L := (n : Int)) R.el (by omega) (by omega) (by omega) ?_ ?_ a1 a2 ?_).trans (by unfold natI; rw [List.map_append]), fun q hq => ?_⟩
  · refine List.nodup_append.mpr ⟨(sub _ _).nodup nd1, (sub _ _).nodup nd2, fun x hx y hy e => ?_⟩
    have := m1 x hx
    have := m2 y hy
    omega
  · rcases List.mem_append.mp hz with h | h
    · have := m1 z h
      omega
    · exact (m2 z h).2
  · unfold dnI
    rw [c, List.map_map, List.map_map, List.map_map, show ((p : Int) - 1 - -1).toNat = p by omega]
    refine List.map_congr_left fun i hi => ?_
    have := List.mem_range.mp hi
    show D.int ((p : Int) - 1 - (i : Int)) = D.int ((p - 1 - i : Nat) : Int)
    exact congrArg D.int (by omega)
  · unfold rngD
    rw [c, List.map_map, List.map_map, show ((n : Int) - ((p : Int) + 1)).toNat = n - 1 - p by omega]
    refine List.map_congr_left fun i hi => ?_
    show D.int ((p : Int) + 1 + (i : Int)) = D.int ((p + 1 + i : Nat) : Int)
    exact congrArg D.int (by omega)
  · have l1 := len ((List.range p).map fun i => p - 1 - i) (v p)
    have l2 := len ((List.range (n - 1 - p)).map fun i => p + 1 + i) (v p)
    simp only [List.length_map, List.length_range] at l1 l2 ⊢
    omega
  · rw [List.mem_append]
    rw [recs_mem _ _ nd1, recs_mem _ _ nd2]
    have g1 : ∀ i y, ((List.range p).map fun i => p - 1 - i)[i]? = some y ↔ i < p ∧ y = p - 1 - i := fun i y => by
      rw [List.getElem?_map]
      by_cases z : i < p
      · rw [List.getElem?_range z]
        simp [z, eq_comm]
      · rw [List.getElem?_eq_none (by rw [List.length_range]; omega)]
        simp [z]
    have g2 : ∀ i y, ((List.range (n - 1 - p)).map fun i => p + 1 + i)[i]? = some y ↔ i < n - 1 - p ∧ y = p + 1 + i := fun i y => by
      rw [List.getElem?_map]
      by_cases z : i < n - 1 - p
      · rw [List.getElem?_range z]
        simp [z, eq_comm]
      · rw [List.getElem?_eq_none (by rw [List.length_range]; omega)]
        simp [z]
    simp only [g1, g2]
    constructor
    · rintro (⟨h1, i, ⟨h2, h3⟩, h4⟩ | ⟨h1, i, ⟨h2, h3⟩, h4⟩)
      · refine .inr ⟨by omega, fun x x1 x2 => ?_⟩
        by_cases z : x = p
        · rw [z]; exact h1
        · exact h4 (p - 1 - x) x (by omega) ⟨by omega, by omega⟩
      · refine .inl ⟨by omega, fun x x1 x2 => ?_⟩
        by_cases z : x = p
        · rw [z]; exact h1
        · exact h4 (x - p - 1) x (by omega) ⟨by omega, by omega⟩
    · rintro (⟨h1, h2⟩ | ⟨h1, h2⟩)
      · exact .inr ⟨h2 p (by omega) h1, q - p - 1, ⟨by omega, by omega⟩, fun j y hj e => h2 y (by omega) (by omega)⟩
      · exact .inl ⟨h2 p h1 (by omega), p - 1 - q, ⟨by omega, by omega⟩, fun j y hj e => h2 y (by omega) (by omega)⟩
theorem holdersH {p : Nat} (hp : p < n) (hn : n ≤ 12) : C_holders.run [.sh row, .sh (.int p)] = .ok (.lst ((cI (hF v p n)).map O.sh)) [] := by
  obtain ⟨zs, nd, lt, e, mem⟩ := holdersZ R hp hn
  rw [e, cI_ints, sort_ints nd (hF_sorted v p n) fun x => ?_]
  rw [hF_mem R hp]
  exact ⟨fun h => ⟨lt x h, (mem x (lt x h)).mp h⟩, fun h => (mem x h.1).mpr h.2⟩
end
end K70
end

section
namespace K70
open PySem PySem.Spec PyProof.Rows L2 TX
theorem ne_self (xs : List Int) : neD (.lst (xs.map D.int)) (.lst (xs.map D.int)) = some (.sh (.bl false)) := by
  unfold neD
  rw [okD_ints, Bool.and_self, if_pos rfl, show D.eqv (.lst (xs.map D.int)) (.lst (xs.map D.int)) = true from eqv_same _]
  rfl
theorem sorted_ints (xs : List Int) : sortedD (.lst (xs.map D.int)) = some (.lst (((sortI xs).map D.int).map O.sh)) := by
  unfold sortedD
  dsimp only [seq2_lst]
  rw [intsOf_map]
def rtB : FS := (sEnd [4, 5, 6, 7, 8] (sSeq (sAsg (eCall C_l_higher (rV (eVar 1) (rV (eVar 4) rN))) (gN 5))
  (sSeq (sIf (tN (eB (eCall (C_l_same 6) (rV (eLst (aC (eCall C_greatest_depth (rV (eVar 1) (rV (eVar 4) rN))) (aC (eCall C_holders (rV (eVar 1) (rV (eVar 4) rN))) aN))) (rV (eLst (aC (eCB (c1 lenD) (aC (eVar 5) aN)) (aC (eVar 5) aN))) rN))))) (sRet (eK (.bl false))) sNx)
  (sSeq (sAsg (eCall C_deep_history (rV (eVar 1) (rV (eVar 4) rN))) (gN 6))
  (sSeq (sIf (eB (eOp oNe (eCB (c1 sortedD) (aC (eVar 6) aN)) (eLr1 (eOp oSub (eVar 2) (eK (.int 1)))))) (sRet (eK (.bl false))) sNx)
  (sSeq (sAsg (eCall C_l_climb (rV (eCall C_l_nest (rV (eVar 1) (rV (eVar 6) rN))) (rV (eVar 4) rN))) (gN 7))
  (sSeq (sAsg (eLc [12] (iS (eVar 7)) (gN 12) tY (eOp oIx (eVar 1) (eVar 12))) (gN 8))
  (sSeq (sIf (tR (eB (eOp oNe (eCB (c1 sortedD) (aC (eVar 7) aN)) (eVar 5))) (eB (eOp oNe (eVar 8) (eCB (c1 sortedD) (aC (eVar 8) aN))))) (sRet (eK (.bl false))) sNx)
  (sIf (eB (eOp oGt (eCB (c1 lenD) (aC (eCall C_around (rV (eVar 1) (rV (eVar 3) (rV (eVar 4) rN)))) aN)) (eCB (c1 lenD) (aC (eVar 5) aN)))) (sRet (eK (.bl false))) sNx)))))))))
theorem rt_turn {b : O} {row nst A : D} {L p m w : Int} {hs ts rr cs vs os : List D} (eh : C_l_higher.run [.sh row, .sh (.int p)] = .ok (.lst (hs.map O.sh)) []) (lh : lenD (.lst hs) = some (.sh (.int m))) (gd : C_greatest_depth.run [.sh row, .sh (.int p)] = .ok (.sh (.int m)) []) (ho : C_holders.run [.sh row, .sh (.int p)] = .ok (.lst (hs.map O.sh)) [])
    (sm : (C_l_same 6).run [.sh (.lst [.int m, .lst hs]), .sh (.lst [.int m, .lst hs])] = .ok (.sh (.bl true)) []) (ed : C_deep_history.run [.sh row, .sh (.int p)] = .ok (.lst (ts.map O.sh)) []) (s1 : sortedD (.lst ts) = some (.lst (rr.map O.sh))) (s5 : small5 (L - 1) = true) (hr : rngD 0 (L - 1).toNat = rr) (nr : neD (.lst rr) (.lst rr) = some (.sh (.bl false)))
    (en : C_l_nest.run [.sh row, .sh (.lst ts)] = .ok (.sh A) []) (ec : C_l_climb.run [.sh A, .sh (.int p)] = .ok (.lst (cs.map O.sh)) [])
    (lc : ∀ s0 s2 s3 s4 s5 s6, lcL [12] (gN 12) tY (eOp oIx (eVar 1) (eVar 12)) cs [] [s0, some (.sh row), s2, s3, s4, s5, s6, some (.sh (.lst cs)), none, none, none, none, none] = .ok (.lst (vs.map O.sh)) [s0, some (.sh row), s2, s3, s4, s5, s6, some (.sh (.lst cs)), none, none, none, none, none])
    (s2 : sortedD (.lst cs) = some (.lst (hs.map O.sh))) (nh : neD (.lst hs) (.lst hs) = some (.sh (.bl false))) (s3 : sortedD (.lst vs) = some (.lst (vs.map O.sh))) (nv : neD (.lst vs) (.lst vs) = some (.sh (.bl false))) (ea : C_around.run [.sh row, .sh nst, .sh (.int p)] = .ok (.lst (os.map O.sh)) []) (lo : lenD (.lst os) = some (.sh (.int w))) (hw : ¬ m < w) :
    (gN 4 (.sh (.int p)) [some b, some (.sh row), some (.sh (.int L)), some (.sh nst), none, none, none, none, none, none, none, none, none]).bind (fun _ s => rtB s) = .ok .nx [some b, some (.sh row), some (.sh (.int L)), some (.sh nst), none, none, none, none, none, none, none, none, none] := by
  have t1 : toDs (List.map O.sh hs) = hs := toDs_map _
  have t2 : toDs (List.map O.sh ts) = ts := toDs_map _
  have t3 : toDs (List.map O.sh rr) = rr := toDs_map _
  have t4 : toDs (List.map O.sh cs) = cs := toDs_map _
  have t5 : toDs (List.map O.sh vs) = vs := toDs_map _
  have t6 : toDs (List.map O.sh os) = os := toDs_map _
  have p1 : sAsg (eCall C_l_higher (rV (eVar 1) (rV (eVar 4) rN))) (gN 5) [some b, some (.sh row), some (.sh (.int L)), some (.sh nst), some (.sh (.int p)), none, none, none, none, none, none, none, none] = .ok .nx [some b, some (.sh row), some (.sh (.int L)), some (.sh nst), some (.sh (.int p)), some (.lst (hs.map O.sh)), none, none, none, none, none, none, none] := by simp [eh]
  have p2 : (sIf (tN (eB (eCall (C_l_same 6) (rV (eLst (aC (eCall C_greatest_depth (rV (eVar 1) (rV (eVar 4) rN))) (aC (eCall C_holders (rV (eVar 1) (rV (eVar 4) rN))) aN))) (rV (eLst (aC (eCB (c1 lenD) (aC (eVar 5) aN)) (aC (eVar 5) aN))) rN))))) (sRet (eK (.bl false))) sNx) [some b, some (.sh row), some (.sh (.int L)), some (.sh nst), some (.sh (.int p)), some (.lst (hs.map O.sh)), none, none, none, none, none, none, none] = .ok .nx [some b, some (.sh row), some (.sh (.int L)), some (.sh nst), some (.sh (.int p)), some (.sh (.lst hs)), none, none, none, none, none, none, none] := by simp [gd, ho, lh, t1, sm, -lenD_lst]
  have p3 : sAsg (eCall C_deep_history (rV (eVar 1) (rV (eVar 4) rN))) (gN 6) [some b, some (.sh row), some (.sh (.int L)), some (.sh nst), some (.sh (.int p)), some (.sh (.lst hs)), none, none, none, none, none, none, none] = .ok .nx [some b, some (.sh row), some (.sh (.int L)), some (.sh nst), some (.sh (.int p)), some (.sh (.lst hs)), some (.lst (ts.map O.sh)), none, none, none, none, none, none] := by simp [ed]
  have p4 : (sIf (eB (eOp oNe (eCB (c1 sortedD) (aC (eVar 6) aN)) (eLr1 (eOp oSub (eVar 2) (eK (.int 1)))))) (sRet (eK (.bl false))) sNx) [some b, some (.sh row), some (.sh (.int L)), some (.sh nst), some (.sh (.int p)), some (.sh (.lst hs)), some (.lst (ts.map O.sh)), none, none, none, none, none, none] = .ok .nx [some b, some (.sh row), some (.sh (.int L)), some (.sh nst), some (.sh (.int p)), some (.sh (.lst hs)), some (.sh (.lst ts)), none, none, none, none, none, none] := by
    generalize hq : L - 1 = q at s5 hr
    simp [t2, s1, hq, s5, hr, t3, nr]
  have p5 : sAsg (eCall C_l_climb (rV (eCall C_l_nest (rV (eVar 1) (rV (eVar 6) rN))) (rV (eVar 4) rN))) (gN 7) [some b, some (.sh row), some (.sh (.int L)), some (.sh nst), some (.sh (.int p)), some (.sh (.lst hs)), some (.sh (.lst ts)), none, none, none, none, none, none] = .ok .nx [some b, some (.sh row), some (.sh (.int L)), some (.sh nst), some (.sh (.int p)), some (.sh (.lst hs)), some (.sh (.lst ts)), some (.lst (cs.map O.sh)), none, none, none, none, none] := by simp [en, ec]
  have p6 : sAsg (eLc [12] (iS (eVar 7)) (gN 12) tY (eOp oIx (eVar 1) (eVar 12))) (gN 8) [some b, some (.sh row), some (.sh (.int L)), some (.sh nst), some (.sh (.int p)), some (.sh (.lst hs)), some (.sh (.lst ts)), some (.lst (cs.map O.sh)), none, none, none, none, none] = .ok .nx [some b, some (.sh row), some (.sh (.int L)), some (.sh nst), some (.sh (.int p)), some (.sh (.lst hs)), some (.sh (.lst ts)), some (.sh (.lst cs)), some (.lst (vs.map O.sh)), none, none, none, none] := by
    generalize (eOp oIx (eVar 1) (eVar 12)) = ee at lc ⊢
    simp [t4, lc]
  have p7 : (sIf (tR (eB (eOp oNe (eCB (c1 sortedD) (aC (eVar 7) aN)) (eVar 5))) (eB (eOp oNe (eVar 8) (eCB (c1 sortedD) (aC (eVar 8) aN))))) (sRet (eK (.bl false))) sNx) [some b, some (.sh row), some (.sh (.int L)), some (.sh nst), some (.sh (.int p)), some (.sh (.lst hs)), some (.sh (.lst ts)), some (.sh (.lst cs)), some (.lst (vs.map O.sh)), none, none, none, none] = .ok .nx [some b, some (.sh row), some (.sh (.int L)), some (.sh nst), some (.sh (.int p)), some (.sh (.lst hs)), some (.sh (.lst ts)), some (.sh (.lst cs)), some (.sh (.lst vs)), none, none, none, none] := by simp [s2, t1, nh, t5, s3, nv]
  have p8 : (sIf (eB (eOp oGt (eCB (c1 lenD) (aC (eCall C_around (rV (eVar 1) (rV (eVar 3) (rV (eVar 4) rN)))) aN)) (eCB (c1 lenD) (aC (eVar 5) aN)))) (sRet (eK (.bl false))) sNx) [some b, some (.sh row), some (.sh (.int L)), some (.sh nst), some (.sh (.int p)), some (.sh (.lst hs)), some (.sh (.lst ts)), some (.sh (.lst cs)), some (.sh (.lst vs)), none, none, none, none] = .ok .nx [some b, some (.sh row), some (.sh (.int L)), some (.sh nst), some (.sh (.int p)), some (.sh (.lst hs)), some (.sh (.lst ts)), some (.sh (.lst cs)), some (.sh (.lst vs)), none, none, none, none] := by simp [ea, t6, lo, lh, hw, -lenD_lst]
  show rtB [some b, some (.sh row), some (.sh (.int L)), some (.sh nst), some (.sh (.int p)), none, none, none, none, none, none, none, none] = _
  unfold rtB
  rw [sEnd_r, seq_nx p1 (seq_nx p2 (seq_nx p3 (seq_nx p4 (seq_nx p5 (seq_nx p6 (seq_nx p7 p8))))))]
  rfl
theorem gd0 {row : D} {p m : Int} {hs : List D} (ho : C_holders.run [.sh row, .sh (.int p)] = .ok (.lst (hs.map O.sh)) []) (lh : lenD (.lst hs) = some (.sh (.int m))) : C_greatest_depth.run [.sh row, .sh (.int p)] = .ok (.sh (.int m)) [] := by
  have t1 : toDs (List.map O.sh hs) = hs := toDs_map _
  refine run_rt (s2 := [some (.sh row), some (.sh (.int p))]) (s3 := [some (.sh row), some (.sh (.int p))]) ?_ rfl
  simp [fb_greatest_depth, ho, t1, lh, -lenD_lst]
theorem v12_turn {s0 s2 s3 s4 s5 s6 s7 : Option O} {row : D} {x y : Int} (e : ixD row (.int x) = some (.sh (.int y))) : ((gN 12 (.sh (.int x)) [s0, some (.sh row), s2, s3, s4, s5, s6, s7, none, none, none, none, none]).bind fun _ s => (tY s).bind fun b s2 => if b = true then ((eOp oIx (eVar 1) (eVar 12)) s2).bind fun o s3 => .ok o (wipeS s3 [12]) else .bad) = .ok (.sh (.int y)) [s0, some (.sh row), s2, s3, s4, s5, s6, s7, none, none, none, none, none] := by
  simp [e, -ixD_r]
section
variable {row : D} {n : Nat} {v : Nat → Int} (R : RowV row n v)
include R
theorem turn {b : O} {h : Nat → Option Nat} (hup : ∀ i k, h i = some k → k < n ∧ Up v i k) {p : Nat} (hp : p < n) (hn : n ≤ 12) :
    (gN 4 (.sh (.int (p : Int))) [some b, some (.sh row), some (.sh (.int (n : Int))), some (.sh (.tup (arr n h))), none, none, none, none, none, none, none, none, none]).bind (fun _ s => rtB s) = .ok .nx [some b, some (.sh row), some (.sh (.int (n : Int))), some (.sh (.tup (arr n h))), none, none, none, none, none, none, none, none, none] := by
  have ho := holdersH R hp hn
  have lh : lenD (.lst (cI (hF v p n))) = some (.sh (.int ((hF v p n).length : Nat))) := by rw [lenD_lst]; unfold cI; rw [List.length_map]
  have pm := deep_all v hp
  have nd : (deep v n (n - 1) p p).Nodup := pm.nodup_iff.mpr List.nodup_range
  have hc : ∀ c ∈ deep v n (n - 1) p p, c + 1 < n := fun c hx => by
    have := List.mem_range.mp (pm.mem_iff.mp hx)
    omega
  have I := inv_go R.inj nd hc (deep v n (n - 1) p p).length (Nat.le_refl _)
  rw [List.take_length] at I
  obtain ⟨l, c1, l1, l2, l3⟩ := chain_ex (n := n) (v := v) (h := (go v (deep v n (n - 1) p p) st0).2) I.up n p hp (meas_le n v p)
  obtain ⟨o, c2, o1, o2, o3⟩ := chain_ex (n := n) (v := v) (h := h) (fun i k _ e => hup i k e) n p hp (meas_le n v p)
  have ml := meas_le n v p
  have ndl : l.Nodup := l2.imp fun q e => by rw [e] at q; omega
  have ndo : o.Nodup := o2.imp fun q e => by rw [e] at q; omega
  have mem : ∀ x, x ∈ l ↔ x ∈ hF v p n := fun x => by
    rw [hF_mem R hp]
    constructor
    · exact fun q => l3 x q
    · rintro ⟨q1, q2⟩
      rcases c1.path (deep_chain R.inj hp q1 q2) with e | e
      · have := q2.lt
        rw [e] at this
        omega
      · exact e
  have osub : o.length ≤ (hF v p n).length := List.Nodup.length_le_of_subset ndo fun x hx => (hF_mem R hp).mpr (o3 x hx)
  have e1 : cI (List.range (n - 1)) = rngD 0 ((n : Int) - 1).toNat := by
    unfold cI rngD
    rw [show ((n : Int) - 1).toNat = n - 1 by omega]
    refine List.map_congr_left fun i _ => ?_
    show D.int (i : Int) = D.int (0 + (i : Int))
    exact congrArg D.int (by omega)
  have vsS : (l.map v).Pairwise (· ≤ ·) := by
    rw [List.pairwise_map]
    exact l2.imp fun q => by omega
  refine rt_turn (A := .tup (arr n (go v (deep v n (n - 1) p p) st0).2)) (m := ((hF v p n).length : Nat)) (w := (o.length : Nat)) (hs := cI (hF v p n)) (ts := cI (deep v n (n - 1) p p)) (rr := cI (List.range (n - 1))) (cs := cI l) (vs := (l.map v).map D.int) (os := cI o) (higher R hp hn) lh (gd0 ho lh) ho ?_ (deep_history R hn hp) ?_ (small5_of (by omega) (by omega)) e1.symm ?_ (nest R nd hc hn (by rw [deep_len]; omega)) (climb c1 hp (fun x q => (l3 x q).1) (by omega) hn) ?_ ?_ ?_ ?_ ?_ (around R c2 hp (fun x q => (o3 x q).1) (by omega) hn) (by rw [lenD_lst]; unfold cI; rw [List.length_map]) (by omega)
  · refine same_self 5 _ ?_ (by decide)
    have : (cI (hF v p n)).all (plN 3) = true := by
      unfold cI
      rw [List.all_map]
      exact List.all_eq_true.mpr fun _ _ => rfl
    have ll : (cI (hF v p n)).length ≤ 9999 := by
      unfold cI hF
      rw [List.length_map]
      have := List.length_filter_le (hiB v p) (List.range n)
      rw [List.length_range] at this
      omega
    show (decide (2 ≤ 9999) && (plN 4 (.int _) && (plN 4 (.lst (cI (hF v p n))) && true))) = true
    have : plN 4 (.lst (cI (hF v p n))) = true := by
      show (decide ((cI (hF v p n)).length ≤ 9999) && (cI (hF v p n)).all (plN 3)) = true
      rw [this, decide_eq_true ll]
      rfl
    rw [this]
    rfl
  · rw [cI_ints, sorted_ints, cI_ints, sort_eq (xs := natI (deep v n (n - 1) p p)) (ys := natI (List.range (n - 1))) (pm.map _) (ints_sorted List.pairwise_lt_range)]
  · rw [cI_ints]
    exact ne_self _
  · intro s0 s2 s3 s4 s5 s6
    generalize hZ : (some (O.sh (.lst (cI l)))) = Z
    have := lcL_st (own := [12]) (fg := gN 12) (ftt := tY) (fe := eOp oIx (eVar 1) (eVar 12)) (fun _ => [s0, some (.sh row), s2, s3, s4, s5, s6, Z, none, none, none, none, none]) (fun i => O.sh (.int (v (l.getD i 0)))) (cI l) (by unfold cI; rw [List.length_map]; omega) fun i d hd => by
      unfold cI at hd
      rw [List.getElem?_map] at hd
      cases hx : l[i]? with
      | none => rw [hx] at hd; cases hd
      | some x =>
        rw [hx] at hd
        cases hd
        have e1 : l.getD i 0 = x := by rw [List.getD_eq_getElem?_getD, hx]; rfl
        dsimp only
        rw [e1]
        exact v12_turn (R.ix (x : Int) x rfl (l3 x (List.mem_of_getElem? hx)).1)
    refine this.trans ?_
    congr 2
    apply List.ext_getElem?
    intro i
    have lc : (cI l).length = l.length := by unfold cI; rw [List.length_map]
    rw [lc, List.map_map, List.map_map, List.getElem?_map, List.getElem?_map]
    by_cases z : i < l.length
    · rw [List.getElem?_range z, List.getElem?_eq_getElem z]
      show some (O.sh (.int (v (l.getD i 0)))) = some (O.sh (.int (v l[i])))
      rw [List.getD_eq_getElem?_getD, List.getElem?_eq_getElem z]
      rfl
    · rw [List.getElem?_eq_none (by rw [List.length_range]; omega), List.getElem?_eq_none (by omega)]
      rfl
  · rw [cI_ints, sorted_ints, cI_ints, sort_ints ndl (hF_sorted v p n) mem]
  · rw [cI_ints]
    exact ne_self _
  · rw [sorted_ints, sort_eq (List.Perm.refl _) vsS]
  · exact ne_self _
end
end K70
end

section
namespace K70
open PySem PySem.Spec PyProof.Rows L2 TX
/-! ### fewest moves -/
theorem fm_no {row : D} {p q L : Int} {hs : List D} (el : lenD row = some (.sh (.int L))) (h0 : 0 ≤ p) (h1 : p < L) (h2 : 0 ≤ q) (h3 : q < L) (ho : C_holders.run [.sh row, .sh (.int p)] = .ok (.lst (hs.map O.sh)) []) (hm : inB (.int q) (.lst hs) = some false) : C_fewest_moves.run [.sh row, .sh (.int p), .sh (.int q)] = .ok (.sh .non) [] := by
  have t1 : toDs (List.map O.sh hs) = hs := toDs_map _
  refine run_rt (s2 := [some (.sh row), some (.sh (.int p)), some (.sh (.int q))]) (s3 := [some (.sh row), some (.sh (.int p)), some (.sh (.int q))]) ?_ rfl
  simp [fb_fewest_moves, check_place el h0 h1, check_place el h2 h3, ho, t1, hm]
theorem fm_yes {row : D} {p q L m : Int} {hs : List D} (el : lenD row = some (.sh (.int L))) (h0 : 0 ≤ p) (h1 : p < L) (h2 : 0 ≤ q) (h3 : q < L) (ho : C_holders.run [.sh row, .sh (.int p)] = .ok (.lst (hs.map O.sh)) []) (hm : inB (.int q) (.lst hs) = some true) (ha : absD (.int (p - q)) = some (.sh (.int m))) : C_fewest_moves.run [.sh row, .sh (.int p), .sh (.int q)] = .ok (.sh (.int m)) [] := by
  have t1 : toDs (List.map O.sh hs) = hs := toDs_map _
  refine run_rt (s2 := [some (.sh row), some (.sh (.int p)), some (.sh (.int q))]) (s3 := [some (.sh row), some (.sh (.int p)), some (.sh (.int q))]) ?_ rfl
  simp [fb_fewest_moves, check_place el h0 h1, check_place el h2 h3, ho, t1, hm, ha, -absD_r]
/-! ### the law -/
def tail1 : FS := (sSeq (sPar [9, 10] (aC (eCall (C_l_take 2) (rL 0 (rV (eVar 2) rN))) (aC (eCall (C_l_take 2) (rL 0 (rV (eVar 2) rN))) aN)))
  (sSeq (sIf (eB (eOp oNi (eVar 10) (eCall C_l_higher (rV (eVar 1) (rV (eVar 9) rN))))) (sRet (eOp oIsN (eCall C_fewest_moves (rV (eVar 1) (rV (eVar 9) (rV (eVar 10) rN)))) (eK .non))) sNx)
  (sSeq (sAsg (eCB cMin2 (aC (eVar 9) (aC (eVar 10) aN))) (gN 11))
  (sSeq (sAsg (eCall C_l_shuffled (rL 0 (rV (eLr2 (eVar 11) (eCB cMax2 (aC (eVar 9) (aC (eVar 10) aN)))) rN))) (gN 6))
  (sSeq (sIf (eB (eOp oNe (eCall C_fewest_moves (rV (eVar 1) (rV (eVar 9) (rV (eVar 10) rN)))) (eCB (c1 lenD) (aC (eVar 6) aN)))) (sRet (eK (.bl false))) sNx)
  (sRet (eAnd (eOp oIn (eVar 10) (eCall C_around (rV (eVar 1) (rV (eCall C_nesting_after (rV (eVar 1) (rV (eVar 6) rN))) (rV (eVar 9) rN))))) (eOp oNe (eVar 6) (eLst aN)))))))))
theorem seq_rt {a b : FS} {s s1 : Sl} {o : O} (h : a s = .ok (.rt o) s1) : sSeq a b s = .ok (.rt o) s1 := by
  rw [sSeq_r, h]
  rfl
theorem tail_no {b b1 b2 : O} {row nst : D} {L p q : Int} {hs : List D} (e1 : (C_l_take 2).run [b, .sh (.int L)] = .ok (.sh (.int p)) [b1]) (e2 : (C_l_take 2).run [b1, .sh (.int L)] = .ok (.sh (.int q)) [b2]) (eh : C_l_higher.run [.sh row, .sh (.int p)] = .ok (.lst (hs.map O.sh)) []) (hm : inB (.int q) (.lst hs) = some false) (ef : C_fewest_moves.run [.sh row, .sh (.int p), .sh (.int q)] = .ok (.sh .non) []) :
    tail1 [some b, some (.sh row), some (.sh (.int L)), some (.sh nst), none, none, none, none, none, none, none, none, none] = .ok (.rt (.sh (.bl true))) [some b2, some (.sh row), some (.sh (.int L)), some (.sh nst), none, none, none, none, none, some (.sh (.int p)), some (.sh (.int q)), none, none] := by
  have t1 : toDs (List.map O.sh hs) = hs := toDs_map _
  have p1 : sPar [9, 10] (aC (eCall (C_l_take 2) (rL 0 (rV (eVar 2) rN))) (aC (eCall (C_l_take 2) (rL 0 (rV (eVar 2) rN))) aN)) [some b, some (.sh row), some (.sh (.int L)), some (.sh nst), none, none, none, none, none, none, none, none, none] = .ok .nx [some b2, some (.sh row), some (.sh (.int L)), some (.sh nst), none, none, none, none, none, some (.sh (.int p)), some (.sh (.int q)), none, none] := by simp [e1, e2]
  have p2 : (sIf (eB (eOp oNi (eVar 10) (eCall C_l_higher (rV (eVar 1) (rV (eVar 9) rN))))) (sRet (eOp oIsN (eCall C_fewest_moves (rV (eVar 1) (rV (eVar 9) (rV (eVar 10) rN)))) (eK .non))) sNx) [some b2, some (.sh row), some (.sh (.int L)), some (.sh nst), none, none, none, none, none, some (.sh (.int p)), some (.sh (.int q)), none, none] = .ok (.rt (.sh (.bl true))) [some b2, some (.sh row), some (.sh (.int L)), some (.sh nst), none, none, none, none, none, some (.sh (.int p)), some (.sh (.int q)), none, none] := by simp [eh, t1, hm, ef]
  exact seq_nx p1 (seq_rt p2)
theorem tail_yes {b b1 b2 b3 : O} {row nst A : D} {L p q lo hi m : Int} {hs rr ts os : List D} (e1 : (C_l_take 2).run [b, .sh (.int L)] = .ok (.sh (.int p)) [b1]) (e2 : (C_l_take 2).run [b1, .sh (.int L)] = .ok (.sh (.int q)) [b2]) (eh : C_l_higher.run [.sh row, .sh (.int p)] = .ok (.lst (hs.map O.sh)) []) (hm : inB (.int q) (.lst hs) = some true) (ef : C_fewest_moves.run [.sh row, .sh (.int p), .sh (.int q)] = .ok (.sh (.int m)) [])
    (m1 : (if p > q then q else p) = lo) (m2 : (if q > p then q else p) = hi) (s1 : small5 lo = true) (s2 : small5 hi = true) (hr : rngD lo (hi - lo).toNat = rr) (es : C_l_shuffled.run [b2, .sh (.lst rr)] = .ok (.lst (ts.map O.sh)) [b3]) (lt : lenD (.lst ts) = some (.sh (.int m))) (en : C_nesting_after.run [.sh row, .sh (.lst ts)] = .ok (.sh A) []) (ea : C_around.run [.sh row, .sh A, .sh (.int p)] = .ok (.lst (os.map O.sh)) []) (im : inB (.int q) (.lst os) = some true) (nt : neD (.lst ts) (.lst []) = some (.sh (.bl true))) :
    tail1 [some b, some (.sh row), some (.sh (.int L)), some (.sh nst), none, none, none, none, none, none, none, none, none] = .ok (.rt (.sh (.bl true))) [some b3, some (.sh row), some (.sh (.int L)), some (.sh nst), none, none, some (.sh (.lst ts)), none, none, some (.sh (.int p)), some (.sh (.int q)), some (.sh (.int lo)), none] := by
  have t1 : toDs (List.map O.sh hs) = hs := toDs_map _
  have t2 : toDs (List.map O.sh rr) = rr := toDs_map _
  have t3 : toDs (List.map O.sh ts) = ts := toDs_map _
  have t4 : toDs (List.map O.sh os) = os := toDs_map _
  have p1 : sPar [9, 10] (aC (eCall (C_l_take 2) (rL 0 (rV (eVar 2) rN))) (aC (eCall (C_l_take 2) (rL 0 (rV (eVar 2) rN))) aN)) [some b, some (.sh row), some (.sh (.int L)), some (.sh nst), none, none, none, none, none, none, none, none, none] = .ok .nx [some b2, some (.sh row), some (.sh (.int L)), some (.sh nst), none, none, none, none, none, some (.sh (.int p)), some (.sh (.int q)), none, none] := by simp [e1, e2]
  have p2 : (sIf (eB (eOp oNi (eVar 10) (eCall C_l_higher (rV (eVar 1) (rV (eVar 9) rN))))) (sRet (eOp oIsN (eCall C_fewest_moves (rV (eVar 1) (rV (eVar 9) (rV (eVar 10) rN)))) (eK .non))) sNx) [some b2, some (.sh row), some (.sh (.int L)), some (.sh nst), none, none, none, none, none, some (.sh (.int p)), some (.sh (.int q)), none, none] = .ok .nx [some b2, some (.sh row), some (.sh (.int L)), some (.sh nst), none, none, none, none, none, some (.sh (.int p)), some (.sh (.int q)), none, none] := by simp [eh, t1, hm]
  have p3 : sAsg (eCB cMin2 (aC (eVar 9) (aC (eVar 10) aN))) (gN 11) [some b2, some (.sh row), some (.sh (.int L)), some (.sh nst), none, none, none, none, none, some (.sh (.int p)), some (.sh (.int q)), none, none] = .ok .nx [some b2, some (.sh row), some (.sh (.int L)), some (.sh nst), none, none, none, none, none, some (.sh (.int p)), some (.sh (.int q)), some (.sh (.int lo)), none] := by
    rw [← m1]
    simp
    try (split <;> split <;> omega)
  have p4 : sAsg (eCall C_l_shuffled (rL 0 (rV (eLr2 (eVar 11) (eCB cMax2 (aC (eVar 9) (aC (eVar 10) aN)))) rN))) (gN 6) [some b2, some (.sh row), some (.sh (.int L)), some (.sh nst), none, none, none, none, none, some (.sh (.int p)), some (.sh (.int q)), some (.sh (.int lo)), none] = .ok .nx [some b3, some (.sh row), some (.sh (.int L)), some (.sh nst), none, none, some (.lst (ts.map O.sh)), none, none, some (.sh (.int p)), some (.sh (.int q)), some (.sh (.int lo)), none] := by
    have m2' : (if p < q then q else p) = hi := m2
    simp [m2', s1, s2, hr, t2, es]
  have p5 : (sIf (eB (eOp oNe (eCall C_fewest_moves (rV (eVar 1) (rV (eVar 9) (rV (eVar 10) rN)))) (eCB (c1 lenD) (aC (eVar 6) aN)))) (sRet (eK (.bl false))) sNx) [some b3, some (.sh row), some (.sh (.int L)), some (.sh nst), none, none, some (.lst (ts.map O.sh)), none, none, some (.sh (.int p)), some (.sh (.int q)), some (.sh (.int lo)), none] = .ok .nx [some b3, some (.sh row), some (.sh (.int L)), some (.sh nst), none, none, some (.sh (.lst ts)), none, none, some (.sh (.int p)), some (.sh (.int q)), some (.sh (.int lo)), none] := by simp [ef, t3, lt, -lenD_lst]
  have p6 : sRet (eAnd (eOp oIn (eVar 10) (eCall C_around (rV (eVar 1) (rV (eCall C_nesting_after (rV (eVar 1) (rV (eVar 6) rN))) (rV (eVar 9) rN))))) (eOp oNe (eVar 6) (eLst aN))) [some b3, some (.sh row), some (.sh (.int L)), some (.sh nst), none, none, some (.sh (.lst ts)), none, none, some (.sh (.int p)), some (.sh (.int q)), some (.sh (.int lo)), none] = .ok (.rt (.sh (.bl true))) [some b3, some (.sh row), some (.sh (.int L)), some (.sh nst), none, none, some (.sh (.lst ts)), none, none, some (.sh (.int p)), some (.sh (.int q)), some (.sh (.int lo)), none] := by simp [en, ea, t4, im, nt]
  exact seq_nx p1 (seq_nx p2 (seq_nx p3 (seq_nx p4 (seq_nx p5 p6))))
theorem right0 {b b1 b2 b3 : O} {row nst : D} {L : Int} {fin : Sl} (e1 : C_l_sizes.run [b, .sh (.int 12)] = .ok (.sh row) [b1]) (el : lenD row = some (.sh (.int L))) (ir : TX.inR L = true) (e2 : C_l_some_nest.run [b1, .sh row, .sh (.int 0)] = .ok (.sh nst) [b2])
    (lp : forL (gN 4) rtB (rngD 0 L.toNat) [some b2, some (.sh row), some (.sh (.int L)), some (.sh nst), none, none, none, none, none, none, none, none, none] = .ok .nx [some b2, some (.sh row), some (.sh (.int L)), some (.sh nst), none, none, none, none, none, none, none, none, none])
    (tl : tail1 [some b2, some (.sh row), some (.sh (.int L)), some (.sh nst), none, none, none, none, none, none, none, none, none] = .ok (.rt (.sh (.bl true))) fin) {s3 : Sl} (hf : takeL [0] fin = some ([b3], s3)) : C_l_right.run [b] = .ok (.sh (.bl true)) [b3] := by
  refine run_rt (s2 := fin) (s3 := s3) ?_ hf
  have h1 : sAsg (eCall C_l_sizes (rL 0 (rV (eK (.int 12)) rN))) (gN 1) [some b, none, none, none, none, none, none, none, none, none, none, none, none] = .ok .nx [some b1, some (.sh row), none, none, none, none, none, none, none, none, none, none, none] := by simp [e1]
  have h2 : sPar [2, 3] (aC (eCB (c1 lenD) (aC (eVar 1) aN)) (aC (eCall C_l_some_nest (rL 0 (rV (eVar 1) (rV (eK (.int 0)) rN)))) aN)) [some b1, some (.sh row), none, none, none, none, none, none, none, none, none, none, none] = .ok .nx [some b2, some (.sh row), some (.sh (.int L)), some (.sh nst), none, none, none, none, none, none, none, none, none] := by simp [el, e2]
  have h3 : sFor (iR1 (aC (eVar 2) aN)) (gN 4) rtB [some b2, some (.sh row), some (.sh (.int L)), some (.sh nst), none, none, none, none, none, none, none, none, none] = .ok .nx [some b2, some (.sh row), some (.sh (.int L)), some (.sh nst), none, none, none, none, none, none, none, none, none] := by
    generalize rtB = bb at lp ⊢
    simp [ir, lp]
  exact seq_nx h1 (seq_nx h2 (seq_nx h3 tl))
theorem right : DrawsOk C_l_right 1000 := by
  intro b n hb hn
  obtain ⟨ns, b1, e1, ok, h1⟩ := sizes (most := 12) hb (by omega) (by decide) (by decide)
  obtain ⟨l1, l2, nd, _⟩ := ok
  obtain ⟨k, hk⟩ : ∃ k : Nat, k = ns.length := ⟨_, rfl⟩
  obtain ⟨v, hv⟩ : ∃ v : Nat → Int, v = fun x => ns.getD x 0 := ⟨_, rfl⟩
  have R : RowV (.tup (ns.map D.int)) k v := by
    subst hv
    refine ⟨by rw [lenD_tup, List.length_map, hk], fun i x hi hx => ?_, fun x y hx hy e => ?_⟩
    · have g : (ns.map D.int)[x]? = some (.int (ns.getD x 0)) := by
        rw [List.getElem?_map, List.getD_eq_getElem?_getD, List.getElem?_eq_getElem (by omega)]
        rfl
      rw [ixD_r, items_tup]
      dsimp only
      rw [hi, atI_nat g]
      rfl
    · rw [List.getD_eq_getElem?_getD, List.getD_eq_getElem?_getD, List.getElem?_eq_getElem (by omega), List.getElem?_eq_getElem (by omega)] at e
      have e2 : ns[x] = ns[y] := e
      have pw := List.pairwise_iff_getElem.mp nd
      rcases Nat.lt_trichotomy x y with z | z | z
      · exact absurd e2 (pw x y (by omega) (by omega) z)
      · exact z
      · exact absurd e2.symm (pw y x (by omega) (by omega) z)
  have k12 : k ≤ 12 := by omega
  obtain ⟨h, b2, e2, up, h2⟩ := some_nest R k12 (by omega) h1 (by omega)
  obtain ⟨p, b3, e3, p0, p1, h3⟩ := take (s := (k : Int)) h2 (by omega) (by omega) (by omega)
  obtain ⟨q, b4, e4, q0, q1, h4⟩ := take (s := (k : Int)) h3 (by omega) (by omega) (by omega)
  obtain ⟨p, rfl⟩ := Int.eq_ofNat_of_zero_le p0
  obtain ⟨q, rfl⟩ := Int.eq_ofNat_of_zero_le q0
  have pl : p < k := by omega
  have ql : q < k := by omega
  have lp := forL_st (fg := gN 4) (fb := rtB) (fun _ => [some b2, some (.sh (.tup (ns.map D.int))), some (.sh (.int (k : Int))), some (.sh (.tup (arr k h))), none, none, none, none, none, none, none, none, none]) (rngD 0 k) fun i d hd => by
    obtain ⟨rfl, hi⟩ := rngD_get hd
    rw [Int.zero_add]
    exact turn R up hi k12
  have ho := holdersH R pl k12
  have hm := higher_mem R pl ql
  have hU := hiB_up R pl ql
  cases z : hiB v p q with
  | false =>
    rw [z] at hm
    refine ⟨b4, right0 (L := (k : Int)) e1 R.el (inR_of (by omega) (by omega)) e2 (by rw [Int.toNat_natCast]; exact lp) (tail_no e3 e4 (higher R pl k12) hm (fm_no R.el (by omega) (by omega) (by omega) (by omega) ho hm)) rfl, h4.mono (by omega)⟩
  | true =>
    rw [z] at hm
    have U := hU.mp z
    have ne : p ≠ q := fun e => by have := U.lt; rw [e] at this; omega
    obtain ⟨m, hmm⟩ : ∃ m : Nat, m = max p q - min p q := ⟨_, rfl⟩
    have hr : rngD ((min p q : Nat) : Int) (((max p q : Nat) : Int) - ((min p q : Nat) : Int)).toNat = ((List.range m).map fun i : Nat => (((min p q + i : Nat)) : Int)).map D.int := by
      unfold rngD
      rw [List.map_map, show (((max p q : Nat) : Int) - ((min p q : Nat) : Int)).toNat = m by omega]
      refine List.map_congr_left fun i _ => ?_
      show D.int (((min p q : Nat) : Int) + (i : Int)) = D.int ((min p q + i : Nat) : Int)
      exact congrArg D.int (by omega)
    obtain ⟨es, b5, e5, pm, h5⟩ := shuffled (ns := (List.range m).map fun i : Nat => (((min p q + i : Nat)) : Int)) (o := .sh (.lst (((List.range m).map fun i : Nat => (((min p q + i : Nat)) : Int)).map D.int))) (.inl rfl) h4 (by simp; omega) (by omega)
    have et : ∃ tour : List Nat, es = natI tour ∧ tour.Perm ((List.range m).map fun i => min p q + i) := by
      refine ⟨es.map Int.toNat, ?_, ?_⟩
      · unfold natI
        rw [List.map_map]
        have : ∀ x ∈ es, ((fun x : Nat => (x : Int)) ∘ Int.toNat) x = x := fun x hx => by
          obtain ⟨i, _, rfl⟩ := List.mem_map.mp (pm.mem_iff.mp hx)
          show (((min p q + i : Nat) : Int).toNat : Int) = _
          rw [Int.toNat_natCast]
        rw [List.map_congr_left this, List.map_id']
      · have := pm.map Int.toNat
        rw [List.map_map] at this
        exact this
    obtain ⟨tour, rfl, pt⟩ := et
    rw [← cI_ints] at e5
    have tm : ∀ c, c ∈ tour ↔ min p q ≤ c ∧ c < max p q := fun c => by
      rw [pt.mem_iff, List.mem_map]
      constructor
      · rintro ⟨i, hi, rfl⟩
        have := List.mem_range.mp hi
        omega
      · rintro ⟨a, b⟩
        exact ⟨c - min p q, List.mem_range.mpr (by omega), by omega⟩
    have tl : tour.length = m := by rw [pt.length_eq]; simp
    have tn : tour.Nodup := by
      refine pt.nodup_iff.mpr ?_
      rw [List.Nodup, List.pairwise_map]
      exact List.Pairwise.imp (fun hab => by omega) List.nodup_range
    have tc : ∀ c ∈ tour, c + 1 < k := fun c hc => by have := (tm c).mp hc; omega
    have I := inv_go R.inj tn tc tour.length (Nat.le_refl _)
    rw [List.take_length] at I
    have jpq : J (fun x => x ∈ tour) p q := fun x x1 x2 => (tm x).mpr ⟨x1, x2⟩
    have inside : min p q ≤ (go v tour st0).1 p ∧ (go v tour st0).1 p ≤ max p q := by
      have j := I.jn p pl
      refine ⟨Classical.byContradiction fun w => ?_, Classical.byContradiction fun w => ?_⟩
      · have := (tm _).mp (j (min p q - 1) (by omega) (by omega))
        omega
      · have := (tm _).mp (j (max p q) (by omega) (by omega))
        omega
    have big : ∀ x, min p q ≤ x → x ≤ max p q → v x ≤ v q := fun x x1 x2 => by
      by_cases e : x = q
      · rw [e]; exact Int.le_refl _
      · rcases U with ⟨u1, u2⟩ | ⟨u1, u2⟩
        · exact Int.le_of_lt (u2 x (by omega) (by omega))
        · exact Int.le_of_lt (u2 x (by omega) (by omega))
    have top : (go v tour st0).1 p = q := by
      have a := I.mx p q pl ql jpq
      have b := big _ inside.1 inside.2
      exact R.inj _ _ (I.lt p pl) ql (by omega)
    obtain ⟨l, c1, n1, n2, n3⟩ := chain_ex (n := k) (v := v) (h := (go v tour st0).2) I.up k p pl (meas_le k v p)
    have ml := meas_le k v p
    have pth := I.pth p pl
    rw [top] at pth
    have ql2 : q ∈ l := (c1.path pth).resolve_left fun e => ne e.symm
    have lt : lenD (.lst (cI tour)) = some (.sh (.int (m : Nat))) := by rw [lenD_lst]; unfold cI; rw [List.length_map, tl]
    have ha : absD (.int ((p : Int) - (q : Int))) = some (.sh (.int (m : Nat))) := by
      rw [absD_r]
      by_cases w : (p : Int) - q < 0
      · rw [if_pos w, show -((p : Int) - q) = ((m : Nat) : Int) by omega]
      · rw [if_neg w, show (p : Int) - q = ((m : Nat) : Int) by omega]
    have im : inB (.int (q : Int)) (.lst (cI l)) = some true := by
      rw [in_cI l (q : Int) q rfl]
      unfold clB
      rw [decide_eq_true ql2]
    have nt : neD (.lst (cI tour)) (.lst []) = some (.sh (.bl true)) := by
      rw [cI_ints]
      unfold neD
      rw [okD_ints, show okD (.lst []) = true from okD_ints [], Bool.and_self, if_pos rfl, eqv_nil]
      cases tour with
      | nil => simp at tl; omega
      | cons a l => rfl
    have tl2 := tail_yes (nst := .tup (arr k h)) (lo := ((min p q : Nat) : Int)) (hi := ((max p q : Nat) : Int)) e3 e4 (higher R pl k12) hm (fm_yes R.el (by omega) (by omega) (by omega) (by omega) ho hm ha) (by split <;> omega) (by split <;> omega) (small5_of (by omega) (by omega)) (small5_of (by omega) (by omega)) hr e5 lt (nesting_after R tn tc k12 (by omega)) (around R c1 pl (fun x hx => (n3 x hx).1) (by omega) k12) im nt
    exact ⟨b5, right0 (L := (k : Int)) e1 R.el (inR_of (by omega) (by omega)) e2 (by rw [Int.toNat_natCast]; exact lp) tl2 rfl, h5.mono (by simp; omega)⟩
theorem law {ns : List Int} : C_law.run [.sh (.scr ns)] = .ok (.sh (.bl true)) [] := by
  have h := law_run (B := C_l_box) (R := C_l_right) (N := 2) (M := 2) (m := 2) (n := 2) (ns := ns) (cost := 1000) rfl (by decide) rfl (by decide) rfl rfl rfl rfl right (by decide) (by decide) fun k => boxed
  exact run_rt (b := fb_law) (s3 := [some (.sh (.scr ns)), none, none, none]) h rfl
end K70
end
namespace K70
open PySem PySem.Spec PyProof.Rows L2 TX
theorem all_mk {P : Program} {w : World} {fa : Addr} {K : PySem.W.Frag} {h : Heap} {mg : Str → Option Value} (X : K.In h) (G : h.Ns mainGlobals mg)
    {a_moves : Addr} {od_moves an_moves : Option Addr} {sl_moves : Array (Option Value)} {oc_moves kV_moves dc_moves pm_moves cd_moves ct_moves : Value}
    {a_nesting_after : Addr} {od_nesting_after an_nesting_after : Option Addr} {sl_nesting_after : Array (Option Value)} {oc_nesting_after kV_nesting_after dc_nesting_after pm_nesting_after cd_nesting_after ct_nesting_after : Value}
    {a_check_place : Addr} {od_check_place an_check_place : Option Addr} {sl_check_place : Array (Option Value)} {oc_check_place kV_check_place dc_check_place pm_check_place cd_check_place ct_check_place : Value}
    {a_around : Addr} {od_around an_around : Option Addr} {sl_around : Array (Option Value)} {oc_around kV_around dc_around pm_around cd_around ct_around : Value}
    {a_rising : Addr} {od_rising an_rising : Option Addr} {sl_rising : Array (Option Value)} {oc_rising kV_rising dc_rising pm_rising cd_rising ct_rising : Value}
    {a_holders : Addr} {od_holders an_holders : Option Addr} {sl_holders : Array (Option Value)} {oc_holders kV_holders dc_holders pm_holders cd_holders ct_holders : Value}
    {a_greatest_depth : Addr} {od_greatest_depth an_greatest_depth : Option Addr} {sl_greatest_depth : Array (Option Value)} {oc_greatest_depth kV_greatest_depth dc_greatest_depth pm_greatest_depth cd_greatest_depth ct_greatest_depth : Value}
    {a_deep_history : Addr} {od_deep_history an_deep_history : Option Addr} {sl_deep_history : Array (Option Value)} {oc_deep_history kV_deep_history dc_deep_history pm_deep_history cd_deep_history ct_deep_history : Value}
    {a_fewest_moves : Addr} {od_fewest_moves an_fewest_moves : Option Addr} {sl_fewest_moves : Array (Option Value)} {oc_fewest_moves kV_fewest_moves dc_fewest_moves pm_fewest_moves cd_fewest_moves ct_fewest_moves : Value}
    {a_l_box : Addr} {od_l_box an_l_box : Option Addr} {sl_l_box : Array (Option Value)} {oc_l_box kV_l_box dc_l_box pm_l_box cd_l_box ct_l_box : Value}
    {a_l_take : Addr} {od_l_take an_l_take : Option Addr} {sl_l_take : Array (Option Value)} {oc_l_take kV_l_take dc_l_take pm_l_take cd_l_take ct_l_take : Value}
    {a_l_pick : Addr} {od_l_pick an_l_pick : Option Addr} {sl_l_pick : Array (Option Value)} {oc_l_pick kV_l_pick dc_l_pick pm_l_pick cd_l_pick ct_l_pick : Value}
    {a_l_same : Addr} {od_l_same an_l_same : Option Addr} {sl_l_same : Array (Option Value)} {oc_l_same kV_l_same dc_l_same pm_l_same cd_l_same ct_l_same : Value}
    {a_l_shuffled : Addr} {od_l_shuffled an_l_shuffled : Option Addr} {sl_l_shuffled : Array (Option Value)} {oc_l_shuffled kV_l_shuffled dc_l_shuffled pm_l_shuffled cd_l_shuffled ct_l_shuffled : Value}
    {a_l_sizes : Addr} {od_l_sizes an_l_sizes : Option Addr} {sl_l_sizes : Array (Option Value)} {oc_l_sizes kV_l_sizes dc_l_sizes pm_l_sizes cd_l_sizes ct_l_sizes : Value}
    {a_l_runs : Addr} {od_l_runs an_l_runs : Option Addr} {sl_l_runs : Array (Option Value)} {oc_l_runs kV_l_runs dc_l_runs pm_l_runs cd_l_runs ct_l_runs : Value}
    {a_l_top : Addr} {od_l_top an_l_top : Option Addr} {sl_l_top : Array (Option Value)} {oc_l_top kV_l_top dc_l_top pm_l_top cd_l_top ct_l_top : Value}
    {a_l_moved : Addr} {od_l_moved an_l_moved : Option Addr} {sl_l_moved : Array (Option Value)} {oc_l_moved kV_l_moved dc_l_moved pm_l_moved cd_l_moved ct_l_moved : Value}
    {a_l_nest : Addr} {od_l_nest an_l_nest : Option Addr} {sl_l_nest : Array (Option Value)} {oc_l_nest kV_l_nest dc_l_nest pm_l_nest cd_l_nest ct_l_nest : Value}
    {a_l_climb : Addr} {od_l_climb an_l_climb : Option Addr} {sl_l_climb : Array (Option Value)} {oc_l_climb kV_l_climb dc_l_climb pm_l_climb cd_l_climb ct_l_climb : Value}
    {a_l_higher : Addr} {od_l_higher an_l_higher : Option Addr} {sl_l_higher : Array (Option Value)} {oc_l_higher kV_l_higher dc_l_higher pm_l_higher cd_l_higher ct_l_higher : Value}
    {a_l_wild : Addr} {od_l_wild an_l_wild : Option Addr} {sl_l_wild : Array (Option Value)} {oc_l_wild kV_l_wild dc_l_wild pm_l_wild cd_l_wild ct_l_wild : Value}
    {a_l_some_nest : Addr} {od_l_some_nest an_l_some_nest : Option Addr} {sl_l_some_nest : Array (Option Value)} {oc_l_some_nest kV_l_some_nest dc_l_some_nest pm_l_some_nest cd_l_some_nest ct_l_some_nest : Value}
    {a_l_right : Addr} {od_l_right an_l_right : Option Addr} {sl_l_right : Array (Option Value)} {oc_l_right kV_l_right dc_l_right pm_l_right cd_l_right ct_l_right : Value}
    {a_law : Addr} {od_law an_law : Option Addr} {sl_law : Array (Option Value)} {oc_law kV_law dc_law pm_law cd_law ct_law : Value}
    (amoves : PySem.W.nsIn K mainGlobals "moves" = some (some (.ref a_moves))) (lmoves : K.lookup a_moves = some ⟨oc_moves, od_moves, .func (PySem.W.fnOf "moves" "moves" (defArgs s_moves) (defBody s_moves) (defScope s_moves) .none kV_moves dc_moves pm_moves an_moves cd_moves ct_moves), sl_moves⟩) (cmoves : PySem.W.codeIn K cd_moves "moves" = true) (kmoves : PySem.W.keepIn K (.ref a_moves) = true)
    (anesting_after : PySem.W.nsIn K mainGlobals "nesting_after" = some (some (.ref a_nesting_after))) (lnesting_after : K.lookup a_nesting_after = some ⟨oc_nesting_after, od_nesting_after, .func (PySem.W.fnOf "nesting_after" "nesting_after" (defArgs s_nesting_after) (defBody s_nesting_after) (defScope s_nesting_after) .none kV_nesting_after dc_nesting_after pm_nesting_after an_nesting_after cd_nesting_after ct_nesting_after), sl_nesting_after⟩) (cnesting_after : PySem.W.codeIn K cd_nesting_after "nesting_after" = true) (knesting_after : PySem.W.keepIn K (.ref a_nesting_after) = true)
    (acheck_place : PySem.W.nsIn K mainGlobals "check_place" = some (some (.ref a_check_place))) (lcheck_place : K.lookup a_check_place = some ⟨oc_check_place, od_check_place, .func (PySem.W.fnOf "check_place" "check_place" (defArgs s_check_place) (defBody s_check_place) (defScope s_check_place) .none kV_check_place dc_check_place pm_check_place an_check_place cd_check_place ct_check_place), sl_check_place⟩) (ccheck_place : PySem.W.codeIn K cd_check_place "check_place" = true) (kcheck_place : PySem.W.keepIn K (.ref a_check_place) = true)
    (aaround : PySem.W.nsIn K mainGlobals "around" = some (some (.ref a_around))) (laround : K.lookup a_around = some ⟨oc_around, od_around, .func (PySem.W.fnOf "around" "around" (defArgs s_around) (defBody s_around) (defScope s_around) .none kV_around dc_around pm_around an_around cd_around ct_around), sl_around⟩) (caround : PySem.W.codeIn K cd_around "around" = true) (karound : PySem.W.keepIn K (.ref a_around) = true)
    (arising : PySem.W.nsIn K mainGlobals "rising" = some (some (.ref a_rising))) (lrising : K.lookup a_rising = some ⟨oc_rising, od_rising, .func (PySem.W.fnOf "rising" "rising" (defArgs s_rising) (defBody s_rising) (defScope s_rising) .none kV_rising dc_rising pm_rising an_rising cd_rising ct_rising), sl_rising⟩) (crising : PySem.W.codeIn K cd_rising "rising" = true) (krising : PySem.W.keepIn K (.ref a_rising) = true)
    (aholders : PySem.W.nsIn K mainGlobals "holders" = some (some (.ref a_holders))) (lholders : K.lookup a_holders = some ⟨oc_holders, od_holders, .func (PySem.W.fnOf "holders" "holders" (defArgs s_holders) (defBody s_holders) (defScope s_holders) .none kV_holders dc_holders pm_holders an_holders cd_holders ct_holders), sl_holders⟩) (cholders : PySem.W.codeIn K cd_holders "holders" = true) (kholders : PySem.W.keepIn K (.ref a_holders) = true)
    (agreatest_depth : PySem.W.nsIn K mainGlobals "greatest_depth" = some (some (.ref a_greatest_depth))) (lgreatest_depth : K.lookup a_greatest_depth = some ⟨oc_greatest_depth, od_greatest_depth, .func (PySem.W.fnOf "greatest_depth" "greatest_depth" (defArgs s_greatest_depth) (defBody s_greatest_depth) (defScope s_greatest_depth) .none kV_greatest_depth dc_greatest_depth pm_greatest_depth an_greatest_depth cd_greatest_depth ct_greatest_depth), sl_greatest_depth⟩) (cgreatest_depth : PySem.W.codeIn K cd_greatest_depth "greatest_depth" = true) (kgreatest_depth : PySem.W.keepIn K (.ref a_greatest_depth) = true)
    (adeep_history : PySem.W.nsIn K mainGlobals "deep_history" = some (some (.ref a_deep_history))) (ldeep_history : K.lookup a_deep_history = some ⟨oc_deep_history, od_deep_history, .func (PySem.W.fnOf "deep_history" "deep_history" (defArgs s_deep_history) (defBody s_deep_history) (defScope s_deep_history) .none kV_deep_history dc_deep_history pm_deep_history an_deep_history cd_deep_history ct_deep_history), sl_deep_history⟩) (cdeep_history : PySem.W.codeIn K cd_deep_history "deep_history" = true) (kdeep_history : PySem.W.keepIn K (.ref a_deep_history) = true)
    (afewest_moves : PySem.W.nsIn K mainGlobals "fewest_moves" = some (some (.ref a_fewest_moves))) (lfewest_moves : K.lookup a_fewest_moves = some ⟨oc_fewest_moves, od_fewest_moves, .func (PySem.W.fnOf "fewest_moves" "fewest_moves" (defArgs s_fewest_moves) (defBody s_fewest_moves) (defScope s_fewest_moves) .none kV_fewest_moves dc_fewest_moves pm_fewest_moves an_fewest_moves cd_fewest_moves ct_fewest_moves), sl_fewest_moves⟩) (cfewest_moves : PySem.W.codeIn K cd_fewest_moves "fewest_moves" = true) (kfewest_moves : PySem.W.keepIn K (.ref a_fewest_moves) = true)
    (al_box : PySem.W.nsIn K mainGlobals "_law_box" = some (some (.ref a_l_box))) (ll_box : K.lookup a_l_box = some ⟨oc_l_box, od_l_box, .func (PySem.W.fnOf "_law_box" "_law_box" (defArgs s_l_box) (defBody s_l_box) (defScope s_l_box) .none kV_l_box dc_l_box pm_l_box an_l_box cd_l_box ct_l_box), sl_l_box⟩) (cl_box : PySem.W.codeIn K cd_l_box "_law_box" = true) (kl_box : PySem.W.keepIn K (.ref a_l_box) = true)
    (al_take : PySem.W.nsIn K mainGlobals "_law_take" = some (some (.ref a_l_take))) (ll_take : K.lookup a_l_take = some ⟨oc_l_take, od_l_take, .func (PySem.W.fnOf "_law_take" "_law_take" (defArgs s_l_take) (defBody s_l_take) (defScope s_l_take) .none kV_l_take dc_l_take pm_l_take an_l_take cd_l_take ct_l_take), sl_l_take⟩) (cl_take : PySem.W.codeIn K cd_l_take "_law_take" = true) (kl_take : PySem.W.keepIn K (.ref a_l_take) = true)
    (al_pick : PySem.W.nsIn K mainGlobals "_law_pick" = some (some (.ref a_l_pick))) (ll_pick : K.lookup a_l_pick = some ⟨oc_l_pick, od_l_pick, .func (PySem.W.fnOf "_law_pick" "_law_pick" (defArgs s_l_pick) (defBody s_l_pick) (defScope s_l_pick) .none kV_l_pick dc_l_pick pm_l_pick an_l_pick cd_l_pick ct_l_pick), sl_l_pick⟩) (cl_pick : PySem.W.codeIn K cd_l_pick "_law_pick" = true) (kl_pick : PySem.W.keepIn K (.ref a_l_pick) = true)
    (al_same : PySem.W.nsIn K mainGlobals "_law_same" = some (some (.ref a_l_same))) (ll_same : K.lookup a_l_same = some ⟨oc_l_same, od_l_same, .func (PySem.W.fnOf "_law_same" "_law_same" (defArgs s_l_same) (defBody s_l_same) (defScope s_l_same) .none kV_l_same dc_l_same pm_l_same an_l_same cd_l_same ct_l_same), sl_l_same⟩) (cl_same : PySem.W.codeIn K cd_l_same "_law_same" = true) (kl_same : PySem.W.keepIn K (.ref a_l_same) = true)
    (al_shuffled : PySem.W.nsIn K mainGlobals "_law_shuffled" = some (some (.ref a_l_shuffled))) (ll_shuffled : K.lookup a_l_shuffled = some ⟨oc_l_shuffled, od_l_shuffled, .func (PySem.W.fnOf "_law_shuffled" "_law_shuffled" (defArgs s_l_shuffled) (defBody s_l_shuffled) (defScope s_l_shuffled) .none kV_l_shuffled dc_l_shuffled pm_l_shuffled an_l_shuffled cd_l_shuffled ct_l_shuffled), sl_l_shuffled⟩) (cl_shuffled : PySem.W.codeIn K cd_l_shuffled "_law_shuffled" = true) (kl_shuffled : PySem.W.keepIn K (.ref a_l_shuffled) = true)
    (al_sizes : PySem.W.nsIn K mainGlobals "_law_sizes" = some (some (.ref a_l_sizes))) (ll_sizes : K.lookup a_l_sizes = some ⟨oc_l_sizes, od_l_sizes, .func (PySem.W.fnOf "_law_sizes" "_law_sizes" (defArgs s_l_sizes) (defBody s_l_sizes) (defScope s_l_sizes) .none kV_l_sizes dc_l_sizes pm_l_sizes an_l_sizes cd_l_sizes ct_l_sizes), sl_l_sizes⟩) (cl_sizes : PySem.W.codeIn K cd_l_sizes "_law_sizes" = true) (kl_sizes : PySem.W.keepIn K (.ref a_l_sizes) = true)
    (al_runs : PySem.W.nsIn K mainGlobals "_law_runs" = some (some (.ref a_l_runs))) (ll_runs : K.lookup a_l_runs = some ⟨oc_l_runs, od_l_runs, .func (PySem.W.fnOf "_law_runs" "_law_runs" (defArgs s_l_runs) (defBody s_l_runs) (defScope s_l_runs) .none kV_l_runs dc_l_runs pm_l_runs an_l_runs cd_l_runs ct_l_runs), sl_l_runs⟩) (cl_runs : PySem.W.codeIn K cd_l_runs "_law_runs" = true) (kl_runs : PySem.W.keepIn K (.ref a_l_runs) = true)
    (al_top : PySem.W.nsIn K mainGlobals "_law_top" = some (some (.ref a_l_top))) (ll_top : K.lookup a_l_top = some ⟨oc_l_top, od_l_top, .func (PySem.W.fnOf "_law_top" "_law_top" (defArgs s_l_top) (defBody s_l_top) (defScope s_l_top) .none kV_l_top dc_l_top pm_l_top an_l_top cd_l_top ct_l_top), sl_l_top⟩) (cl_top : PySem.W.codeIn K cd_l_top "_law_top" = true) (kl_top : PySem.W.keepIn K (.ref a_l_top) = true)
    (al_moved : PySem.W.nsIn K mainGlobals "_law_moved" = some (some (.ref a_l_moved))) (ll_moved : K.lookup a_l_moved = some ⟨oc_l_moved, od_l_moved, .func (PySem.W.fnOf "_law_moved" "_law_moved" (defArgs s_l_moved) (defBody s_l_moved) (defScope s_l_moved) .none kV_l_moved dc_l_moved pm_l_moved an_l_moved cd_l_moved ct_l_moved), sl_l_moved⟩) (cl_moved : PySem.W.codeIn K cd_l_moved "_law_moved" = true) (kl_moved : PySem.W.keepIn K (.ref a_l_moved) = true)
    (al_nest : PySem.W.nsIn K mainGlobals "_law_nest" = some (some (.ref a_l_nest))) (ll_nest : K.lookup a_l_nest = some ⟨oc_l_nest, od_l_nest, .func (PySem.W.fnOf "_law_nest" "_law_nest" (defArgs s_l_nest) (defBody s_l_nest) (defScope s_l_nest) .none kV_l_nest dc_l_nest pm_l_nest an_l_nest cd_l_nest ct_l_nest), sl_l_nest⟩) (cl_nest : PySem.W.codeIn K cd_l_nest "_law_nest" = true) (kl_nest : PySem.W.keepIn K (.ref a_l_nest) = true)
    (al_climb : PySem.W.nsIn K mainGlobals "_law_climb" = some (some (.ref a_l_climb))) (ll_climb : K.lookup a_l_climb = some ⟨oc_l_climb, od_l_climb, .func (PySem.W.fnOf "_law_climb" "_law_climb" (defArgs s_l_climb) (defBody s_l_climb) (defScope s_l_climb) .none kV_l_climb dc_l_climb pm_l_climb an_l_climb cd_l_climb ct_l_climb), sl_l_climb⟩) (cl_climb : PySem.W.codeIn K cd_l_climb "_law_climb" = true) (kl_climb : PySem.W.keepIn K (.ref a_l_climb) = true)
    (al_higher : PySem.W.nsIn K mainGlobals "_law_higher" = some (some (.ref a_l_higher))) (ll_higher : K.lookup a_l_higher = some ⟨oc_l_higher, od_l_higher, .func (PySem.W.fnOf "_law_higher" "_law_higher" (defArgs s_l_higher) (defBody s_l_higher) (defScope s_l_higher) .none kV_l_higher dc_l_higher pm_l_higher an_l_higher cd_l_higher ct_l_higher), sl_l_higher⟩) (cl_higher : PySem.W.codeIn K cd_l_higher "_law_higher" = true) (kl_higher : PySem.W.keepIn K (.ref a_l_higher) = true)
    (al_wild : PySem.W.nsIn K mainGlobals "_law_wild" = some (some (.ref a_l_wild))) (ll_wild : K.lookup a_l_wild = some ⟨oc_l_wild, od_l_wild, .func (PySem.W.fnOf "_law_wild" "_law_wild" (defArgs s_l_wild) (defBody s_l_wild) (defScope s_l_wild) .none kV_l_wild dc_l_wild pm_l_wild an_l_wild cd_l_wild ct_l_wild), sl_l_wild⟩) (cl_wild : PySem.W.codeIn K cd_l_wild "_law_wild" = true) (kl_wild : PySem.W.keepIn K (.ref a_l_wild) = true)
    (al_some_nest : PySem.W.nsIn K mainGlobals "_law_some_nest" = some (some (.ref a_l_some_nest))) (ll_some_nest : K.lookup a_l_some_nest = some ⟨oc_l_some_nest, od_l_some_nest, .func (PySem.W.fnOf "_law_some_nest" "_law_some_nest" (defArgs s_l_some_nest) (defBody s_l_some_nest) (defScope s_l_some_nest) .none kV_l_some_nest dc_l_some_nest pm_l_some_nest an_l_some_nest cd_l_some_nest ct_l_some_nest), sl_l_some_nest⟩) (cl_some_nest : PySem.W.codeIn K cd_l_some_nest "_law_some_nest" = true) (kl_some_nest : PySem.W.keepIn K (.ref a_l_some_nest) = true)
    (al_right : PySem.W.nsIn K mainGlobals "_law_right" = some (some (.ref a_l_right))) (ll_right : K.lookup a_l_right = some ⟨oc_l_right, od_l_right, .func (PySem.W.fnOf "_law_right" "_law_right" (defArgs s_l_right) (defBody s_l_right) (defScope s_l_right) .none kV_l_right dc_l_right pm_l_right an_l_right cd_l_right ct_l_right), sl_l_right⟩) (cl_right : PySem.W.codeIn K cd_l_right "_law_right" = true) (kl_right : PySem.W.keepIn K (.ref a_l_right) = true)
    (alaw : PySem.W.nsIn K mainGlobals "law" = some (some (.ref a_law))) (llaw : K.lookup a_law = some ⟨oc_law, od_law, .func (PySem.W.fnOf "law" "law" (defArgs s_law) (defBody s_law) (defScope s_law) .none kV_law dc_law pm_law an_law cd_law ct_law), sl_law⟩) (claw : PySem.W.codeIn K cd_law "law" = true) (klaw : PySem.W.keepIn K (.ref a_law) = true)
    (zabs : PySem.W.nsIn K mainGlobals "abs" = some none)
    (zall : PySem.W.nsIn K mainGlobals "all" = some none)
    (zbool : PySem.W.nsIn K mainGlobals "bool" = some none)
    (zint : PySem.W.nsIn K mainGlobals "int" = some none)
    (zisinstance : PySem.W.nsIn K mainGlobals "isinstance" = some none)
    (zlen : PySem.W.nsIn K mainGlobals "len" = some none)
    (zlist : PySem.W.nsIn K mainGlobals "list" = some none)
    (zmax : PySem.W.nsIn K mainGlobals "max" = some none)
    (zmin : PySem.W.nsIn K mainGlobals "min" = some none)
    (zrange : PySem.W.nsIn K mainGlobals "range" = some none)
    (zsorted : PySem.W.nsIn K mainGlobals "sorted" = some none)
    (zstr : PySem.W.nsIn K mainGlobals "str" = some none)
    (ztuple : PySem.W.nsIn K mainGlobals "tuple" = some none)
    (zzip : PySem.W.nsIn K mainGlobals "zip" = some none) (hfa : mg "law" = some (.ref fa)) :
    ∃ fd : FuncData, (∀ (s : Shared) (v : Value), BindsTo s fd ⟨[v], []⟩ [("_law_script", v)]) ∧ ∀ base : Heap, K.In base → base.Ns mainGlobals mg → FnG P w K mg base CX0 18 fa fd ["_law_script"] (TX.spT K C_law) := by
  obtain ⟨T, e, hb⟩ := all_txt X G amoves lmoves cmoves kmoves anesting_after lnesting_after cnesting_after knesting_after acheck_place lcheck_place ccheck_place kcheck_place aaround laround caround karound arising lrising crising krising aholders lholders cholders kholders agreatest_depth lgreatest_depth cgreatest_depth kgreatest_depth adeep_history ldeep_history cdeep_history kdeep_history afewest_moves lfewest_moves cfewest_moves kfewest_moves al_box ll_box cl_box kl_box al_take ll_take cl_take kl_take al_pick ll_pick cl_pick kl_pick al_same ll_same cl_same kl_same al_shuffled ll_shuffled cl_shuffled kl_shuffled al_sizes ll_sizes cl_sizes kl_sizes al_runs ll_runs cl_runs kl_runs al_top ll_top cl_top kl_top al_moved ll_moved cl_moved kl_moved al_nest ll_nest cl_nest kl_nest al_climb ll_climb cl_climb kl_climb al_higher ll_higher cl_higher kl_higher al_wild ll_wild cl_wild kl_wild al_some_nest ll_some_nest cl_some_nest kl_some_nest al_right ll_right cl_right kl_right alaw llaw claw klaw zabs zall zbool zint zisinstance zlen zlist zmax zmin zrange zsorted zstr ztuple zzip
  obtain rfl := e fa hfa
  exact ⟨T.d_law, hb, fun base _ _ => ok_law T⟩
end K70
open PySem PySem.W PyProof.Rows
set_option maxRecDepth 100000 in
set_option maxHeartbeats 0 in
theorem PySem.Challenge.cw_putinside_k70_whole_depths_holds : PySem.Challenge.rw_putinside_k70_whole_depths.Holds := by
  w_on; o_law; k_head; (case hw => w_witness2)
  k_fill
  refine TX.head_of (l := PySem.Challenge.rw_putinside_k70_whole_depths) (n := 63) (k := 18) (x := "_law_script") (sp := fun w => TX.spT _ K70.C_law) rfl (by decide) rfl ⟨rfl, by decide, by decide⟩ (fun w h Y => PySem.W.kIn_of Y) ?F (fun w H a ns hl _ hS => TX.law_start rfl rfl K70.law hS)
  case F =>
    intro w mg fa h KX G hmg
    refine' K70.all_mk KX G ?gamoves ?glmoves ?gcmoves ?gkmoves ?ganesting_after ?glnesting_after ?gcnesting_after ?gknesting_after ?gacheck_place ?glcheck_place ?gccheck_place ?gkcheck_place ?gaaround ?glaround ?gcaround ?gkaround ?garising ?glrising ?gcrising ?gkrising ?gaholders ?glholders ?gcholders ?gkholders ?gagreatest_depth ?glgreatest_depth ?gcgreatest_depth ?gkgreatest_depth ?gadeep_history ?gldeep_history ?gcdeep_history ?gkdeep_history ?gafewest_moves ?glfewest_moves ?gcfewest_moves ?gkfewest_moves ?gal_box ?gll_box ?gcl_box ?gkl_box ?gal_take ?gll_take ?gcl_take ?gkl_take ?gal_pick ?gll_pick ?gcl_pick ?gkl_pick ?gal_same ?gll_same ?gcl_same ?gkl_same ?gal_shuffled ?gll_shuffled ?gcl_shuffled ?gkl_shuffled ?gal_sizes ?gll_sizes ?gcl_sizes ?gkl_sizes ?gal_runs ?gll_runs ?gcl_runs ?gkl_runs ?gal_top ?gll_top ?gcl_top ?gkl_top ?gal_moved ?gll_moved ?gcl_moved ?gkl_moved ?gal_nest ?gll_nest ?gcl_nest ?gkl_nest ?gal_climb ?gll_climb ?gcl_climb ?gkl_climb ?gal_higher ?gll_higher ?gcl_higher ?gkl_higher ?gal_wild ?gll_wild ?gcl_wild ?gkl_wild ?gal_some_nest ?gll_some_nest ?gcl_some_nest ?gkl_some_nest ?gal_right ?gll_right ?gcl_right ?gkl_right ?galaw ?gllaw ?gclaw ?gklaw ?gzabs ?gzall ?gzbool ?gzint ?gzisinstance ?gzlen ?gzlist ?gzmax ?gzmin ?gzrange ?gzsorted ?gzstr ?gztuple ?gzzip hmg
    (case gamoves => k_is); (case glmoves => k_is); (case gcmoves => k_is); (case gkmoves => k_is); (case ganesting_after => k_is); (case glnesting_after => k_is); (case gcnesting_after => k_is); (case gknesting_after => k_is); (case gacheck_place => k_is); (case glcheck_place => k_is); (case gccheck_place => k_is); (case gkcheck_place => k_is); (case gaaround => k_is); (case glaround => k_is); (case gcaround => k_is); (case gkaround => k_is); (case garising => k_is); (case glrising => k_is); (case gcrising => k_is); (case gkrising => k_is); (case gaholders => k_is); (case glholders => k_is); (case gcholders => k_is); (case gkholders => k_is); (case gagreatest_depth => k_is); (case glgreatest_depth => k_is); (case gcgreatest_depth => k_is); (case gkgreatest_depth => k_is); (case gadeep_history => k_is); (case gldeep_history => k_is); (case gcdeep_history => k_is); (case gkdeep_history => k_is); (case gafewest_moves => k_is); (case glfewest_moves => k_is); (case gcfewest_moves => k_is); (case gkfewest_moves => k_is); (case gal_box => k_is); (case gll_box => k_is); (case gcl_box => k_is); (case gkl_box => k_is); (case gal_take => k_is); (case gll_take => k_is); (case gcl_take => k_is); (case gkl_take => k_is); (case gal_pick => k_is); (case gll_pick => k_is); (case gcl_pick => k_is); (case gkl_pick => k_is); (case gal_same => k_is); (case gll_same => k_is); (case gcl_same => k_is); (case gkl_same => k_is); (case gal_shuffled => k_is); (case gll_shuffled => k_is); (case gcl_shuffled => k_is); (case gkl_shuffled => k_is); (case gal_sizes => k_is); (case gll_sizes => k_is); (case gcl_sizes => k_is); (case gkl_sizes => k_is); (case gal_runs => k_is); (case gll_runs => k_is); (case gcl_runs => k_is); (case gkl_runs => k_is); (case gal_top => k_is); (case gll_top => k_is); (case gcl_top => k_is); (case gkl_top => k_is); (case gal_moved => k_is); (case gll_moved => k_is); (case gcl_moved => k_is); (case gkl_moved => k_is); (case gal_nest => k_is); (case gll_nest => k_is); (case gcl_nest => k_is); (case gkl_nest => k_is); (case gal_climb => k_is); (case gll_climb => k_is); (case gcl_climb => k_is); (case gkl_climb => k_is); (case gal_higher => k_is); (case gll_higher => k_is); (case gcl_higher => k_is); (case gkl_higher => k_is); (case gal_wild => k_is); (case gll_wild => k_is); (case gcl_wild => k_is); (case gkl_wild => k_is); (case gal_some_nest => k_is); (case gll_some_nest => k_is); (case gcl_some_nest => k_is); (case gkl_some_nest => k_is); (case gal_right => k_is); (case gll_right => k_is); (case gcl_right => k_is); (case gkl_right => k_is); (case galaw => k_is); (case gllaw => k_is); (case gclaw => k_is); (case gklaw => k_is); (case gzabs => k_is); (case gzall => k_is); (case gzbool => k_is); (case gzint => k_is); (case gzisinstance => k_is); (case gzlen => k_is); (case gzlist => k_is); (case gzmax => k_is); (case gzmin => k_is); (case gzrange => k_is); (case gzsorted => k_is); (case gzstr => k_is); (case gztuple => k_is); (case gzzip => k_is)

