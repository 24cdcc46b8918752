import PyProof.Rows.All
import HandS.ForMost
import HandS.ForExc
import HandS.ExcInit
import HandS.Rev
import HandS.EndBits
import PyProof.ReprRoads
import PyProof.ReprLen
import PyProof.Rows.SeqMore
import HandS.Iter
import HandS.Conv
import KE.KExcIs
import HandS.ExcField
import HandS.MakeKw
import HandS.IsInst
import PyProof.ExcBaseAll.LookupError
import HandS.ExcValue
import PySem.Challenge.RW_nestprops_k01_errors_and_their_attribute
import Wide.All
import OpenK.AllK
import Wide.FinOn
set_option Elab.async false
set_option linter.all false
set_option maxRecDepth 100000
set_option autoImplicit false
/-! Dw1: data over the hand layer: values as trees, what represents them, frames, states of slots. -/
namespace Dw
open PySem PySem.Spec PyProof.Rows L2

/-- a value as a tree -/
inductive D where
  | non
  | bl (b : Bool)
  | int (i : Int)
  | str (s : Str)
  | ref (a : Addr)
  | lst (xs : List D)
  | tup (xs : List D)
  | ins (C : Addr) (ns : List Str) (ds : List D)
  | exc (C : Addr) (ns : List Str) (ds : List D)

abbrev No := Addr → Prop
/-- the read part alone -/
def H00 : Hp := fun _ => none
def LAt (K : PySem.W.Frag) (N : No) (H : Hp) (a : Addr) (vs : List V) : Prop := (¬ N a ∧ Rd H a (.lst vs)) ∨ SqL K H00 a vs
def TAt (K : PySem.W.Frag) (N : No) (H : Hp) (a : Addr) (vs : List V) : Prop := (¬ N a ∧ Rd H a (.tup vs)) ∨ SqT K H00 a vs
theorem no_rd {a : Addr} {u : HO} : ¬ Rd H00 a u := by
  rintro (h | ⟨o, h⟩)
  · exact nomatch h
  · exact nomatch h
theorem sqL_up {K : PySem.W.Frag} {H : Hp} {a : Addr} {vs : List V} (h : SqL K H00 a vs) : SqL K H a vs := by
  rcases h with h | h
  · exact (no_rd h).elim
  · exact .inr h
theorem sqT_up {K : PySem.W.Frag} {H : Hp} {a : Addr} {vs : List V} (h : SqT K H00 a vs) : SqT K H a vs := by
  rcases h with h | h
  · exact (no_rd h).elim
  · exact .inr h
theorem LAt.sq {K : PySem.W.Frag} {N : No} {H : Hp} {a : Addr} {vs : List V} (h : LAt K N H a vs) : SqL K H a vs := by
  rcases h with h | h
  · exact .inl h.2
  · exact sqL_up h
theorem TAt.sq {K : PySem.W.Frag} {N : No} {H : Hp} {a : Addr} {vs : List V} (h : TAt K N H a vs) : SqT K H a vs := by
  rcases h with h | h
  · exact .inl h.2
  · exact sqT_up h
/-- what stands outside of N stays -/
def Sm (N : No) (H H' : Hp) : Prop := ∀ a o, ¬ N a → H a = some o → H' a = some o
theorem Sm.refl {N : No} {H : Hp} : Sm N H H := fun _ _ _ h => h
theorem Sm.trans {N : No} {H H1 H2 : Hp} (a : Sm N H H1) (b : Sm N H1 H2) : Sm N H H2 := fun x o n h => b x o n (a x o n h)
theorem Sm.wide {N M : No} {H H1 : Hp} (a : Sm N H H1) (h : ∀ x, N x → M x) : Sm M H H1 := fun x o n e => a x o (fun z => n (h x z)) e
theorem Sm.new {N : No} {H : Hp} {p : Addr} {o : HO} (h : H p = none) : Sm N H (upd H p o) := fun a u _ e => by
  rw [upd_ne (ne_of_none e h)]
  exact e
theorem Sm.rd {N : No} {H H' : Hp} {a : Addr} {u : HO} (e : Sm N H H') (n : ¬ N a) (h : Rd H a u) : Rd H' a u := by
  rcases h with h | ⟨o, h⟩
  · exact .inl (e a _ n h)
  · exact .inr ⟨o, e a _ n h⟩
theorem LAt.mono {K : PySem.W.Frag} {N : No} {H H' : Hp} {a : Addr} {vs : List V} (e : Sm N H H') (h : LAt K N H a vs) : LAt K N H' a vs := by
  rcases h with ⟨n, h⟩ | h
  · exact .inl ⟨n, e.rd n h⟩
  · exact .inr h
theorem TAt.mono {K : PySem.W.Frag} {N : No} {H H' : Hp} {a : Addr} {vs : List V} (e : Sm N H H') (h : TAt K N H a vs) : TAt K N H' a vs := by
  rcases h with ⟨n, h⟩ | h
  · exact .inl ⟨n, e.rd n h⟩
  · exact .inr h
theorem rd_tracked {H : Hp} {a p : Addr} {u : HO} (h : Rd H a u) (n : H p = none) : a ≠ p := by
  rcases h with h | ⟨o, h⟩
  · exact ne_of_none h n
  · exact ne_of_none h n

mutual
/-- the value v stands for the tree, by objects outside of N -/
def Rep (K : PySem.W.Frag) (N : No) (H : Hp) : D → V → Prop
  | .non, v => v = .non
  | .bl b, v => v = .bl b
  | .int i, v => v = .int i
  | .str s, v => v = .str s
  | .ref a, v => v = .ref a
  | .lst ds, v => ∃ a vs, v = .ref a ∧ LAt K N H a vs ∧ RepL K N H ds vs
  | .tup ds, v => ∃ a vs, v = .ref a ∧ TAt K N H a vs ∧ RepL K N H ds vs
  | .ins C ns ds, v => ∃ a dx vs, v = .ref a ∧ ¬ N a ∧ ¬ N dx ∧ H a = some (.ins C dx (ns.zip vs)) ∧ H dx = some (.own a) ∧ ns.length = ds.length ∧ RepL K N H ds vs
  | .exc C ns ds, v => ∃ a o vs, v = .ref a ∧ ¬ N a ∧ H a = some (exo a C o) ∧ ((o = none ∧ ns = []) ∨ ∃ dx, o = some dx ∧ ¬ N dx ∧ H dx = some (exd dx (ns.zip vs))) ∧ ns.length = ds.length ∧ RepL K N H ds vs
def RepL (K : PySem.W.Frag) (N : No) (H : Hp) : List D → List V → Prop
  | [], vs => vs = []
  | d :: ds, vs => ∃ v r, vs = v :: r ∧ Rep K N H d v ∧ RepL K N H ds r
end

mutual
theorem Rep.mono {K : PySem.W.Frag} {N : No} {H H' : Hp} (e : Sm N H H') : ∀ {d : D} {v : V}, Rep K N H d v → Rep K N H' d v
  | .non, _, h => h
  | .bl _, _, h => h
  | .int _, _, h => h
  | .str _, _, h => h
  | .ref _, _, h => h
  | .lst ds, v, h => by
    obtain ⟨a, vs, e1, h1, h2⟩ := h
    exact ⟨a, vs, e1, h1.mono e, RepL.mono e h2⟩
  | .tup ds, v, h => by
    obtain ⟨a, vs, e1, h1, h2⟩ := h
    exact ⟨a, vs, e1, h1.mono e, RepL.mono e h2⟩
  | .ins C ns ds, v, h => by
    obtain ⟨a, dx, vs, e1, n1, n2, h1, h2, hl, h3⟩ := h
    exact ⟨a, dx, vs, e1, n1, n2, e a _ n1 h1, e dx _ n2 h2, hl, RepL.mono e h3⟩
  | .exc C ns ds, v, h => by
    obtain ⟨a, o, vs, e1, n1, h1, h2, hl, h3⟩ := h
    exact ⟨a, o, vs, e1, n1, e a _ n1 h1, h2.imp id (fun ⟨dx, e2, n2, q⟩ => ⟨dx, e2, n2, e dx _ n2 q⟩), hl, RepL.mono e h3⟩
theorem RepL.mono {K : PySem.W.Frag} {N : No} {H H' : Hp} (e : Sm N H H') : ∀ {ds : List D} {vs : List V}, RepL K N H ds vs → RepL K N H' ds vs
  | [], _, h => h
  | d :: ds, vs, h => by
    obtain ⟨v, r, e1, h1, h2⟩ := h
    exact ⟨v, r, e1, Rep.mono e h1, RepL.mono e h2⟩
end
theorem LAt.gen {K : PySem.W.Frag} {N M : No} {H : Hp} {a : Addr} {vs : List V} (e : ∀ a, M a → N a ∨ H a = none) (h : LAt K N H a vs) : LAt K M H a vs := by
  rcases h with ⟨n, h⟩ | h
  · exact .inl ⟨fun q => (e a q).elim n fun z => rd_tracked h z rfl, h⟩
  · exact .inr h
theorem TAt.gen {K : PySem.W.Frag} {N M : No} {H : Hp} {a : Addr} {vs : List V} (e : ∀ a, M a → N a ∨ H a = none) (h : TAt K N H a vs) : TAt K M H a vs := by
  rcases h with ⟨n, h⟩ | h
  · exact .inl ⟨fun q => (e a q).elim n fun z => rd_tracked h z rfl, h⟩
  · exact .inr h
mutual
/-- another set is forbidden: of the first one, or where nothing stands -/
theorem Rep.gen {K : PySem.W.Frag} {N M : No} {H : Hp} (e : ∀ a, M a → N a ∨ H a = none) : ∀ {d : D} {v : V}, Rep K N H d v → Rep K M H d v
  | .non, _, h => h
  | .bl _, _, h => h
  | .int _, _, h => h
  | .str _, _, h => h
  | .ref _, _, h => h
  | .lst ds, v, h => by
    obtain ⟨a, vs, e1, h1, h2⟩ := h
    exact ⟨a, vs, e1, h1.gen e, RepL.gen e h2⟩
  | .tup ds, v, h => by
    obtain ⟨a, vs, e1, h1, h2⟩ := h
    exact ⟨a, vs, e1, h1.gen e, RepL.gen e h2⟩
  | .ins C ns ds, v, h => by
    obtain ⟨a, dx, vs, e1, n1, n2, h1, h2, hl, h3⟩ := h
    refine ⟨a, dx, vs, e1, fun z => (e a z).elim n1 fun q => ?_, fun z => (e dx z).elim n2 fun q => ?_, h1, h2, hl, RepL.gen e h3⟩
    · rw [h1] at q
      cases q
    · rw [h2] at q
      cases q
  | .exc C ns ds, v, h => by
    obtain ⟨a, o, vs, e1, n1, h1, h2, hl, h3⟩ := h
    refine ⟨a, o, vs, e1, fun z => (e a z).elim n1 fun q => ?_, h1, h2.imp id (fun ⟨dx, e2, n2, q⟩ => ⟨dx, e2, fun z => (e dx z).elim n2 fun y => ?_, q⟩), hl, RepL.gen e h3⟩
    · rw [h1] at q
      cases q
    · rw [q] at y
      cases y
theorem RepL.gen {K : PySem.W.Frag} {N M : No} {H : Hp} (e : ∀ a, M a → N a ∨ H a = none) : ∀ {ds : List D} {vs : List V}, RepL K N H ds vs → RepL K M H ds vs
  | [], _, h => h
  | d :: ds, vs, h => by
    obtain ⟨v, r, e1, h1, h2⟩ := h
    exact ⟨v, r, e1, Rep.gen e h1, RepL.gen e h2⟩
end
theorem Rep.less {K : PySem.W.Frag} {N M : No} {H : Hp} {d : D} {v : V} (e : ∀ a, M a → N a) (h : Rep K N H d v) : Rep K M H d v := h.gen fun a q => .inl (e a q)
theorem RepL.less {K : PySem.W.Frag} {N M : No} {H : Hp} {d : List D} {v : List V} (e : ∀ a, M a → N a) (h : RepL K N H d v) : RepL K M H d v := h.gen fun a q => .inl (e a q)
/-- N and one more -/
def plus (N : No) (p : Addr) : No := fun a => N a ∨ a = p
theorem Rep.more {K : PySem.W.Frag} {N : No} {H : Hp} {p : Addr} {d : D} {v : V} (n : H p = none) (h : Rep K N H d v) : Rep K (plus N p) H d v := h.gen fun a q => q.imp id fun z => by rw [z]; exact n
theorem RepL.more {K : PySem.W.Frag} {N : No} {H : Hp} {p : Addr} {d : List D} {v : List V} (n : H p = none) (h : RepL K N H d v) : RepL K (plus N p) H d v := h.gen fun a q => q.imp id fun z => by rw [z]; exact n

section
variable {K : PySem.W.Frag} {N : No} {H : Hp}
theorem RepL.length : ∀ {ds : List D} {vs : List V}, RepL K N H ds vs → ds.length = vs.length
  | [], _, h => by
    have e : _ = [] := h
    rw [e]
    rfl
  | d :: ds, vs, h => by
    obtain ⟨v, r, e1, h1, h2⟩ := h
    rw [e1, List.length_cons, List.length_cons, RepL.length h2]
theorem RepL.nil : RepL K N H [] [] := rfl
theorem RepL.cons {d : D} {ds : List D} {v : V} {vs : List V} (h : Rep K N H d v) (t : RepL K N H ds vs) : RepL K N H (d :: ds) (v :: vs) := ⟨v, vs, rfl, h, t⟩
theorem RepL.one {d : D} {v : V} (h : Rep K N H d v) : RepL K N H [d] [v] := .cons h .nil
theorem RepL.append : ∀ {ds es : List D} {vs ws : List V}, RepL K N H ds vs → RepL K N H es ws → RepL K N H (ds ++ es) (vs ++ ws)
  | [], es, vs, ws, h, g => by
    have e : vs = [] := h
    rw [e]
    exact g
  | d :: ds, es, vs, ws, h, g => by
    obtain ⟨v, r, e1, h1, h2⟩ := h
    subst e1
    exact ⟨v, r ++ ws, rfl, h1, RepL.append h2 g⟩
theorem RepL.get : ∀ {ds : List D} {vs : List V} {i : Nat} {d : D}, RepL K N H ds vs → ds[i]? = some d → ∃ v, vs[i]? = some v ∧ Rep K N H d v
  | [], _, i, d, _, g => by simp at g
  | e :: ds, vs, 0, d, h, g => by
    obtain ⟨v, r, e1, h1, h2⟩ := h
    subst e1
    have q : e = d := by simpa using g
    subst q
    exact ⟨v, rfl, h1⟩
  | e :: ds, vs, i + 1, d, h, g => by
    obtain ⟨v, r, e1, h1, h2⟩ := h
    subst e1
    obtain ⟨u, q1, q2⟩ := RepL.get (i := i) (d := d) h2 (by simpa using g)
    exact ⟨u, by simpa using q1, q2⟩
theorem RepL.getV {ds : List D} {vs : List V} {i : Nat} {v : V} (h : RepL K N H ds vs) (g : vs[i]? = some v) : ∃ d, ds[i]? = some d ∧ Rep K N H d v := by
  have hi : i < vs.length := (List.getElem?_eq_some_iff.mp g).1
  have hj : i < ds.length := by rw [h.length]; exact hi
  obtain ⟨u, q1, q2⟩ := h.get (List.getElem?_eq_getElem hj)
  rw [g] at q1
  cases q1
  exact ⟨_, List.getElem?_eq_getElem hj, q2⟩
theorem RepL.take : ∀ {ds : List D} {vs : List V} (n : Nat), RepL K N H ds vs → RepL K N H (ds.take n) (vs.take n)
  | ds, vs, 0, h => by
    rw [List.take_zero, List.take_zero]
    exact .nil
  | [], vs, n + 1, h => by
    have e : vs = [] := h
    rw [e]
    exact .nil
  | d :: ds, vs, n + 1, h => by
    obtain ⟨v, r, e1, h1, h2⟩ := h
    subst e1
    exact .cons h1 (RepL.take n h2)
theorem RepL.drop : ∀ {ds : List D} {vs : List V} (n : Nat), RepL K N H ds vs → RepL K N H (ds.drop n) (vs.drop n)
  | ds, vs, 0, h => h
  | [], vs, n + 1, h => by
    have e : vs = [] := h
    rw [e]
    exact .nil
  | d :: ds, vs, n + 1, h => by
    obtain ⟨v, r, e1, h1, h2⟩ := h
    subst e1
    exact RepL.drop n h2
theorem RepL.erase : ∀ {ds : List D} {vs : List V} (n : Nat), RepL K N H ds vs → RepL K N H (ds.eraseIdx n) (vs.eraseIdx n)
  | [], vs, n, h => by
    have e : vs = [] := h
    rw [e]
    exact .nil
  | d :: ds, vs, 0, h => by
    obtain ⟨v, r, e1, h1, h2⟩ := h
    subst e1
    exact h2
  | d :: ds, vs, n + 1, h => by
    obtain ⟨v, r, e1, h1, h2⟩ := h
    subst e1
    exact .cons h1 (RepL.erase n h2)
theorem RepL.reverse : ∀ {ds : List D} {vs : List V}, RepL K N H ds vs → RepL K N H ds.reverse vs.reverse
  | [], vs, h => by
    have e : vs = [] := h
    rw [e]
    exact .nil
  | d :: ds, vs, h => by
    obtain ⟨v, r, e1, h1, h2⟩ := h
    subst e1
    rw [List.reverse_cons, List.reverse_cons]
    exact (RepL.reverse h2).append (.one h1)
theorem repL_ints : ∀ {ns : List Int} {vs : List V}, RepL K N H (ns.map D.int) vs → vs = ns.map V.int
  | [], vs, h => h
  | n :: ns, vs, h => by
    obtain ⟨v, r, e1, h1, h2⟩ := h
    have e2 : v = .int n := h1
    rw [e1, e2, repL_ints h2]
    rfl
theorem repL_of_ints : ∀ (ns : List Int), RepL K N H (ns.map D.int) (ns.map V.int)
  | [] => rfl
  | n :: ns => ⟨.int n, ns.map V.int, rfl, rfl, repL_of_ints ns⟩
theorem repL_strs : ∀ {ns : List Str} {vs : List V}, RepL K N H (ns.map D.str) vs → vs = ns.map V.str
  | [], vs, h => h
  | n :: ns, vs, h => by
    obtain ⟨v, r, e1, h1, h2⟩ := h
    have e2 : v = .str n := h1
    rw [e1, e2, repL_strs h2]
    rfl
theorem repL_of_strs : ∀ (ns : List Str), RepL K N H (ns.map D.str) (ns.map V.str)
  | [] => rfl
  | n :: ns => ⟨.str n, ns.map V.str, rfl, rfl, repL_of_strs ns⟩
theorem repL_bls : ∀ {ns : List Bool} {vs : List V}, RepL K N H (ns.map D.bl) vs → vs = ns.map V.bl
  | [], vs, h => h
  | n :: ns, vs, h => by
    obtain ⟨v, r, e1, h1, h2⟩ := h
    have e2 : v = .bl n := h1
    rw [e1, e2, repL_bls h2]
    rfl
end
end Dw

namespace Dw
open PySem PySem.Spec PyProof.Rows L2

/-- what is fixed through a def: the read part, the heap at the entry, what the def may turn (F0, kept by I), what its results must not hold (F) -/
structure Md where
  K : PySem.W.Frag
  H0 : Hp
  F0 : No
  F : No
  I : Hp → Prop
  f0 : ∀ a, F0 a → F a
  tr : ∀ a, F a → H0 a ≠ none
  st : ∀ H H', I H → (∀ a o, F0 a → H a = some o → H' a = some o) → I H'
  tk : ∀ H a, I H → F0 a → H a ≠ none

/-- a slot: unknown, data, a list of one's own at p -/
inductive Sl where
  | un
  | d (x : D)
  | mu (p : Addr) (xs : List D)

/-- forbidden: F and one's own lists -/
def nf (M : Md) (O : List Addr) : No := fun a => M.F a ∨ a ∈ O
def SlR (M : Md) (O : List Addr) (H : Hp) (v : Option (Option V)) : Sl → Prop
  | .un => True
  | .d x => ∃ u, v = some (some u) ∧ Rep M.K (nf M O) H x u
  | .mu p xs => v = some (some (.ref p)) ∧ p ∈ O ∧ ∃ vs, H p = some (.lst vs) ∧ RepL M.K (nf M O) H xs vs

structure Rp (M : Md) (O : List Addr) (r : List Sl) (σ : L2.St) (H : Hp) : Prop where
  sm : Sm M.F0 M.H0 H
  inv : M.I H
  own : ∀ p ∈ O, M.H0 p = none ∧ H p ≠ none
  nod : O.Nodup
  len : σ.length = r.length
  slot : ∀ (i : Nat) (s : Sl), r[i]? = some s → SlR M O H σ[i]? s
  one : ∀ (i j : Nat) (p : Addr) (xs ys : List D), r[i]? = some (.mu p xs) → r[j]? = some (.mu p ys) → i = j

theorem nf0 {M : Md} {O : List Addr} : ∀ a, M.F0 a → nf M O a := fun a h => .inl (M.f0 a h)
theorem Rep.step {M : Md} {O : List Addr} {H H' : Hp} {d : D} {v : V} (e : Sm M.F0 H H') (h : Rep M.K (nf M O) H d v) : Rep M.K (nf M O) H' d v := h.mono (e.wide nf0)
theorem RepL.step {M : Md} {O : List Addr} {H H' : Hp} {d : List D} {v : List V} (e : Sm M.F0 H H') (h : RepL M.K (nf M O) H d v) : RepL M.K (nf M O) H' d v := h.mono (e.wide nf0)

/-- an expression gives data of which k holds; slots and own lists stay -/
def De (M : Md) (te : TE) (O : List Addr) (r : List Sl) (k : D → Prop) : Prop :=
  ∀ σ H (Q : VK), Rp M O r σ H → (∀ v H' d, Rp M O r σ H' → Sm M.F0 H H' → Rep M.K (nf M O) H' d v → k d → Q v H') → te σ H Q
def DT (M : Md) (tt : TT) (O : List Addr) (r : List Sl) (k : Bool → Prop) : Prop :=
  ∀ σ H (Q : Bool → Hp → Prop), Rp M O r σ H → (∀ b H', Rp M O r σ H' → Sm M.F0 H H' → k b → Q b H') → tt σ H Q
def DA (M : Md) (ta : TA) (O : List Addr) (r : List Sl) (k : List D → Prop) : Prop :=
  ∀ σ H (Q : List V → Hp → Prop), Rp M O r σ H → (∀ vs H' ds, Rp M O r σ H' → Sm M.F0 H H' → RepL M.K (nf M O) H' ds vs → k ds → Q vs H') → ta σ H Q
/-- what is wanted behind a statement -/
structure Kn where
  nx : List Addr → List Sl → Prop
  rt : D → Prop
  bk : List Addr → List Sl → Prop := fun _ _ => False
  ct : List Addr → List Sl → Prop := fun _ _ => False
/-- what a block may turn: the footprint, own lists -/
def st (M : Md) (O : List Addr) : No := fun a => M.F0 a ∨ a ∈ O
/-- .. and it may have new ones -/
def Stp (M : Md) (O : List Addr) (H : Hp) (O' : List Addr) (H' : Hp) : Prop := Sm (st M O) H H' ∧ (∀ p ∈ O', p ∈ O ∨ H p = none) ∧ ∀ a, H a ≠ none → H' a ≠ none
structure EndsOk (M : Md) (O : List Addr) (H : Hp) (E : Kn) (Z : Ends) : Prop where
  nx : ∀ O1 r σ H1, Rp M O1 r σ H1 → Stp M O H O1 H1 → E.nx O1 r → Z.nx σ H1
  rt : ∀ v H d, Sm M.F0 M.H0 H → M.I H → Rep M.K M.F H d v → E.rt d → Z.rt v H
  bk : ∀ O1 r σ H1, Rp M O1 r σ H1 → Stp M O H O1 H1 → E.bk O1 r → Z.bk σ H1
  ct : ∀ O1 r σ H1, Rp M O1 r σ H1 → Stp M O H O1 H1 → E.ct O1 r → Z.ct σ H1
def DS (M : Md) (ts : TS) (O : List Addr) (r : List Sl) (E : Kn) : Prop :=
  ∀ σ H Z, Rp M O r σ H → EndsOk M O H E Z → ts Z σ H

section
variable {M : Md} {O : List Addr} {r : List Sl} {σ : L2.St} {H H' : Hp}
theorem new_no (R : Rp M O r σ H) {p : Addr} (n : H p = none) : ¬ nf M O p := by
  rintro (h | h)
  · by_cases q : M.F0 p
    · exact M.tk H p R.inv q n
    · cases e : M.H0 p with
      | none => exact M.tr p h e
      | some o =>
        have := R.sm p o q e
        rw [n] at this
        cases this
  · exact (R.own p h).2 n
theorem nf_tr (R : Rp M O r σ H) : ∀ a, nf M O a → H a ≠ none := fun a h n => new_no R n h
/-- the heap grows or the def's own footprint turns; own lists stay -/
theorem Rp.step (R : Rp M O r σ H) (e : Sm M.F0 H H') (i : M.I H') : Rp M O r σ H' := by
  have nO : ∀ p ∈ O, ¬ M.F0 p := fun p hp z => M.tr p (M.f0 p z) (R.own p hp).1
  refine ⟨R.sm.trans e, i, fun p hp => ⟨(R.own p hp).1, ?_⟩, R.nod, R.len, fun j s hs => ?_, R.one⟩
  · cases q : H p with
    | none => exact absurd q (R.own p hp).2
    | some o =>
      rw [e p o (nO p hp) q]
      exact fun z => nomatch z
  · have h := R.slot j s hs
    cases s with
    | un => trivial
    | d x =>
      obtain ⟨u, e1, h1⟩ := h
      exact ⟨u, e1, h1.mono (e.wide fun a z => .inl (M.f0 a z))⟩
    | mu p xs =>
      obtain ⟨e1, hp, vs, h1, h2⟩ := h
      exact ⟨e1, hp, vs, e p _ (nO p hp) h1, h2.mono (e.wide fun a z => .inl (M.f0 a z))⟩
theorem Rp.grow (R : Rp M O r σ H) (e : Sm (fun _ => False) H H') : Rp M O r σ H' :=
  R.step (e.wide fun _ z => z.elim) (M.st H H' R.inv fun a o _ h => e a o (fun z => z) h)
theorem sm_0 {N : No} (e : Sm (fun _ => False) H H') : Sm N H H' := e.wide fun _ z => z.elim
theorem sm_new {p : Addr} {o : HO} (n : H p = none) : Sm (fun _ => False) H (upd H p o) := Sm.new n
theorem sm_st (e : Sm M.F0 H H') : Sm (st M O) H H' := e.wide fun _ z => .inl z

/-! ### expressions -/
variable {k : D → Prop} {ta tb te : TE} {tt : TT} {tl : TA}
theorem De.imp {k' : D → Prop} (h : De M te O r k) (i : ∀ d, k d → k' d) : De M te O r k' := fun σ H Q R z => h σ H Q R fun v H1 d R1 e1 p1 q1 => z v H1 d R1 e1 p1 (i d q1)
theorem DT.imp {k k' : Bool → Prop} (h : DT M tt O r k) (i : ∀ d, k d → k' d) : DT M tt O r k' := fun σ H Q R z => h σ H Q R fun b H1 R1 e1 q1 => z b H1 R1 e1 (i b q1)
theorem DA.imp {k k' : List D → Prop} (h : DA M tl O r k) (i : ∀ d, k d → k' d) : DA M tl O r k' := fun σ H Q R z => h σ H Q R fun v H1 d R1 e1 p1 q1 => z v H1 d R1 e1 p1 (i d q1)
theorem de_var {i : Nat} {x : D} (h : r[i]? = some (.d x)) (q : k x) : De M (tVar i) O r k := fun σ H Q R z => by
  obtain ⟨u, e, h1⟩ := R.slot i _ h
  exact ⟨u, e, z u H x R .refl h1 q⟩
theorem de_int {i : Int} (q : k (.int i)) : De M (tC (.int i)) O r k := fun σ H Q R z => z (.int i) H (.int i) R .refl rfl q
theorem de_bl {i : Bool} (q : k (.bl i)) : De M (tC (.bl i)) O r k := fun σ H Q R z => z (.bl i) H (.bl i) R .refl rfl q
theorem de_str {i : Str} (q : k (.str i)) : De M (tC (.str i)) O r k := fun σ H Q R z => z (.str i) H (.str i) R .refl rfl q
theorem de_non (q : k .non) : De M (tC .non) O r k := fun σ H Q R z => z .non H .non R .refl rfl q
/-- a constant of the module -/
theorem de_c {v : V} (d : D) (h : ∀ N H, Rep M.K N H d v) (q : k d) : De M (tC v) O r k := fun σ H Q R z => z v H d R .refl (h _ _) q
/-- two operands, then what the operator asks of the values -/
theorem de_op {f : R2} (h : De M ta O r fun x => De M tb O r fun y => ∀ σ H v u (Q : VK), Rp M O r σ H → Rep M.K (nf M O) H x v → Rep M.K (nf M O) H y u →
    (∀ w H' d, Rp M O r σ H' → Sm M.F0 H H' → Rep M.K (nf M O) H' d w → k d → Q w H') → f v u H Q) : De M (tOp f ta tb) O r k := fun σ H Q R z => by
  refine h σ H _ R fun v H1 x R1 e1 p1 h1 => ?_
  refine h1 σ H1 _ R1 fun u H2 y R2 e2 p2 h2 => ?_
  exact h2 σ H2 v u Q R2 (p1.step e2) p2 fun w H3 d R3 e3 p3 q3 => z w H3 d R3 ((e1.trans e2).trans e3) p3 q3
theorem de_op2 {f : R2} {C : D → D → Prop} (h : De M ta O r fun x => De M tb O r fun y => C x y) (hc : ∀ x y, C x y → ∀ σ H v u (Q : VK), Rp M O r σ H → Rep M.K (nf M O) H x v → Rep M.K (nf M O) H y u →
    (∀ w H' d, Rp M O r σ H' → Sm M.F0 H H' → Rep M.K (nf M O) H' d w → k d → Q w H') → f v u H Q) : De M (tOp f ta tb) O r k :=
  de_op (h.imp fun x h1 => h1.imp fun y h2 => hc x y h2)
theorem de_rI0 {g : Int → Int → V} (G : Int → Int → D) (hg : ∀ i j N H, Rep M.K N H (G i j) (g i j)) (h : De M ta O r fun x => De M tb O r fun y => ∃ i j, x = .int i ∧ y = .int j ∧ k (G i j)) : De M (tOp (rI0 g) ta tb) O r k := de_op2 h fun x y c σ H v u Q R pv pu z => by
  obtain ⟨i, j, rfl, rfl, q⟩ := c
  exact ⟨i, j, pv, pu, z _ H _ R .refl (hg i j _ _) q⟩
theorem de_rI {C : Int → Int → Prop} {g : Int → Int → V} (G : Int → Int → D) (hg : ∀ i j N H, Rep M.K N H (G i j) (g i j)) (h : De M ta O r fun x => De M tb O r fun y => ∃ i j, x = .int i ∧ y = .int j ∧ C i j ∧ k (G i j)) : De M (tOp (rI C g) ta tb) O r k := de_op2 h fun x y c σ H v u Q R pv pu z => by
  obtain ⟨i, j, rfl, rfl, c, q⟩ := c
  exact ⟨i, j, pv, pu, c, z _ H _ R .refl (hg i j _ _) q⟩
theorem de_intI {g : Int → Int → Int} (h : De M ta O r fun x => De M tb O r fun y => ∃ i j, x = .int i ∧ y = .int j ∧ k (.int (g i j))) : De M (tOp (rI0 fun i j => .int (g i j)) ta tb) O r k := de_rI0 (fun i j => .int (g i j)) (fun _ _ _ _ => rfl) h
theorem de_intB {g : Int → Int → Bool} (h : De M ta O r fun x => De M tb O r fun y => ∃ i j, x = .int i ∧ y = .int j ∧ k (.bl (g i j))) : De M (tOp (rI0 fun i j => .bl (g i j)) ta tb) O r k := de_rI0 (fun i j => .bl (g i j)) (fun _ _ _ _ => rfl) h
theorem de_intC {C : Int → Int → Prop} {g : Int → Int → Int} (h : De M ta O r fun x => De M tb O r fun y => ∃ i j, x = .int i ∧ y = .int j ∧ C i j ∧ k (.int (g i j))) : De M (tOp (rI C fun i j => .int (g i j)) ta tb) O r k := de_rI (fun i j => .int (g i j)) (fun _ _ _ _ => rfl) h
/-- scalars compared -/
def D.v : D → Option V
  | .non => some .non
  | .bl b => some (.bl b)
  | .int i => some (.int i)
  | .str s => some (.str s)
  | _ => none
theorem D.v_rep {K : PySem.W.Frag} {N : No} {H : Hp} {d : D} {x v : V} (h : d.v = some x) (p : Rep K N H d v) : v = x := by
  cases d <;> first
    | (cases h; exact p)
    | cases h
theorem de_eq (h : De M ta O r fun x => De M tb O r fun y => ∃ a b, x.v = some a ∧ y.v = some b ∧ scal a b = true ∧ k (.bl (decide (a = b)))) : De M (tOp rEq ta tb) O r k := de_op2 h fun x y c σ H v u Q R pv pu z => by
  obtain ⟨a, b, ha, hb, hs, q⟩ := c
  rw [D.v_rep ha pv, D.v_rep hb pu]
  exact ⟨hs, z _ H (.bl (decide (a = b))) R .refl rfl q⟩
theorem de_ne (h : De M ta O r fun x => De M tb O r fun y => ∃ a b, x.v = some a ∧ y.v = some b ∧ scal a b = true ∧ k (.bl (!decide (a = b)))) : De M (tOp rNe ta tb) O r k := de_op2 h fun x y c σ H v u Q R pv pu z => by
  obtain ⟨a, b, ha, hb, hs, q⟩ := c
  rw [D.v_rep ha pv, D.v_rep hb pu]
  exact ⟨hs, z _ H (.bl (!decide (a = b))) R .refl rfl q⟩
theorem de_un {g : Int → V} (G : Int → D) (hg : ∀ i N H, Rep M.K N H (G i) (g i)) (h : De M ta O r fun x => ∃ i, x = .int i ∧ k (G i)) : De M (tUn (rU g) ta) O r k := fun σ H Q R z => by
  refine h σ H _ R fun v H1 x R1 e1 p1 h1 => ?_
  obtain ⟨i, rfl, q⟩ := h1
  exact ⟨i, p1, z _ H1 _ R1 e1 (hg i _ _) q⟩

/-! ### arguments, displays -/
theorem da_nil {k : List D → Prop} (q : k []) : DA M tNil O r k := fun σ H Q R z => z [] H [] R .refl .nil q
theorem da_cons {k : List D → Prop} (h : De M te O r fun x => DA M tl O r fun xs => k (x :: xs)) : DA M (tCons te tl) O r k := fun σ H Q R z => by
  refine h σ H _ R fun v H1 x R1 e1 p1 h1 => ?_
  exact h1 σ H1 _ R1 fun vs H2 xs R2 e2 p2 q2 => z (v :: vs) H2 (x :: xs) R2 (e1.trans e2) (.cons (p1.step e2) p2) q2
theorem rep_lst (R : Rp M O r σ H) {p : Addr} {ds : List D} {vs : List V} (hp : H p = none) (h : RepL M.K (nf M O) H ds vs) : Rep M.K (nf M O) (upd H p (.lst vs)) (.lst ds) (.ref p) :=
  ⟨p, vs, rfl, .inl ⟨new_no R hp, .inl upd_same⟩, h.step (sm_0 (sm_new hp))⟩
theorem rep_tup (R : Rp M O r σ H) {p : Addr} {ds : List D} {vs : List V} (hp : H p = none) (h : RepL M.K (nf M O) H ds vs) : Rep M.K (nf M O) (upd H p (.tup vs)) (.tup ds) (.ref p) :=
  ⟨p, vs, rfl, .inl ⟨new_no R hp, .inl upd_same⟩, h.step (sm_0 (sm_new hp))⟩
theorem de_lst (h : DA M tl O r fun ds => ds.length ≤ sizeLine ∧ k (.lst ds)) : De M (tLst tl) O r k := fun σ H Q R z => by
  refine h σ H _ R fun vs H1 ds R1 e1 p1 q => ⟨by rw [← p1.length]; exact q.1, fun p hp => ?_⟩
  exact z _ _ (.lst ds) (R1.grow (sm_new hp)) (e1.trans (sm_0 (sm_new hp))) (rep_lst R1 hp p1) q.2
theorem de_tup (h : DA M tl O r fun ds => ds.length ≤ sizeLine ∧ k (.tup ds)) : De M (tTup tl) O r k := fun σ H Q R z => by
  refine h σ H _ R fun vs H1 ds R1 e1 p1 q => ⟨by rw [← p1.length]; exact q.1, fun p hp => ?_⟩
  exact z _ _ (.tup ds) (R1.grow (sm_new hp)) (e1.trans (sm_0 (sm_new hp))) (rep_tup R1 hp p1) q.2

/-! ### tests -/
variable {kt : Bool → Prop} {tu : TT}
theorem dt_test (h : De M te O r fun x => ∃ b, x = .bl b ∧ kt b) : DT M (tTest te) O r kt := fun σ H Q R z => h σ H _ R fun v H1 x R1 e1 p1 h1 => by
  obtain ⟨b, rfl, q⟩ := h1
  exact ⟨b, p1, z b H1 R1 e1 q⟩
theorem dt_B (h : De M te O r fun x => ∃ b, x = .bl b ∧ kt b) : DT M (tB te) O r kt := fun σ H Q R z => h σ H _ R fun v H1 x R1 e1 p1 h1 => by
  obtain ⟨b, rfl, q⟩ := h1
  exact ⟨b, p1, z b H1 R1 e1 q⟩
theorem dt_and (h : DT M tt O r fun b => if b = true then DT M tu O r kt else kt false) : DT M (tAnd tt tu) O r kt := fun σ H Q R z => h σ H _ R fun b H1 R1 e1 q1 => by
  cases b with
  | true =>
    show tu σ H1 Q
    exact q1 σ H1 Q R1 fun b H2 R2 e2 q2 => z b H2 R2 (e1.trans e2) q2
  | false =>
    show Q false H1
    exact z false H1 R1 e1 q1
theorem dt_or (h : DT M tt O r fun b => if b = true then kt true else DT M tu O r kt) : DT M (tOr tt tu) O r kt := fun σ H Q R z => h σ H _ R fun b H1 R1 e1 q1 => by
  cases b with
  | false =>
    show tu σ H1 Q
    exact q1 σ H1 Q R1 fun b H2 R2 e2 q2 => z b H2 R2 (e1.trans e2) q2
  | true =>
    show Q true H1
    exact z true H1 R1 e1 q1
theorem dt_not (h : DT M tt O r fun b => kt (!b)) : DT M (tNot tt) O r kt := fun σ H Q R z => h σ H _ R fun b H1 R1 e1 q1 => z _ H1 R1 e1 q1
theorem de_if (h : DT M tt O r fun b => if b = true then De M ta O r k else De M tb O r k) : De M (tIf tt ta tb) O r k := fun σ H Q R z => h σ H _ R fun b H1 R1 e1 q1 => by
  cases b with
  | true =>
    show ta σ H1 Q
    exact q1 σ H1 Q R1 fun v H2 d R2 e2 p2 q2 => z v H2 d R2 (e1.trans e2) p2 q2
  | false =>
    show tb σ H1 Q
    exact q1 σ H1 Q R1 fun v H2 d R2 e2 p2 q2 => z v H2 d R2 (e1.trans e2) p2 q2
theorem de_andV (h : De M ta O r fun x => ∃ b, x = .bl b ∧ if b = true then De M tb O r k else k (.bl false)) : De M (tAndV ta tb) O r k := fun σ H Q R z => h σ H _ R fun v H1 x R1 e1 p1 h1 => by
  obtain ⟨b, rfl, q⟩ := h1
  refine ⟨b, p1, ?_⟩
  cases b with
  | true => exact q σ H1 Q R1 fun v H2 d R2 e2 p2 q2 => z v H2 d R2 (e1.trans e2) p2 q2
  | false => exact z (.bl false) H1 (.bl false) R1 e1 rfl q
theorem de_orV (h : De M ta O r fun x => ∃ b, x = .bl b ∧ if b = true then k (.bl true) else De M tb O r k) : De M (tOrV ta tb) O r k := fun σ H Q R z => h σ H _ R fun v H1 x R1 e1 p1 h1 => by
  obtain ⟨b, rfl, q⟩ := h1
  refine ⟨b, p1, ?_⟩
  cases b with
  | false => exact q σ H1 Q R1 fun v H2 d R2 e2 p2 q2 => z v H2 d R2 (e1.trans e2) p2 q2
  | true => exact z (.bl true) H1 (.bl true) R1 e1 rfl q
theorem de_notV (h : De M ta O r fun x => ∃ b, x = .bl b ∧ k (.bl (!b))) : De M (tNotV ta) O r k := fun σ H Q R z => h σ H _ R fun v H1 x R1 e1 p1 h1 => by
  obtain ⟨b, rfl, q⟩ := h1
  exact ⟨b, p1, z _ H1 (.bl (!b)) R1 e1 rfl q⟩

/-! ### statements -/
theorem Stp.refl : Stp M O H O H := ⟨.refl, fun _ h => .inl h, fun _ h => h⟩
theorem Rp.stays (R' : Rp M O r σ H') (e : Sm (st M O) H H') : ∀ a, H a ≠ none → H' a ≠ none := fun a h => by
  by_cases q : st M O a
  · rcases q with q | q
    · exact M.tk H' a R'.inv q
    · exact (R'.own a q).2
  · cases e1 : H a with
    | none => exact absurd e1 h
    | some o =>
      rw [e a o q e1]
      exact fun z => nomatch z
theorem Rp.stp (R' : Rp M O r σ H') (e : Sm M.F0 H H') : Stp M O H O H' := ⟨sm_st e, fun _ h => .inl h, R'.stays (sm_st e)⟩
theorem Stp.trans {O1 O2 : List Addr} {H1 H2 : Hp} (i : M.I H1) (a : Stp M O H O1 H1) (b : Stp M O1 H1 O2 H2) : Stp M O H O2 H2 := by
  refine ⟨fun x o n e => b.1 x o (fun z => ?_) (a.1 x o n e), fun p hp => ?_, fun x h => b.2.2 x (a.2.2 x h)⟩
  · rcases z with z | z
    · exact n (.inl z)
    · rcases a.2.1 x z with q | q
      · exact n (.inr q)
      · rw [e] at q
        cases q
  · rcases b.2.1 p hp with q | q
    · exact a.2.1 p q
    · right
      cases e : H p with
      | none => rfl
      | some o => exact absurd q (a.2.2 p (by rw [e]; exact fun z => nomatch z))
variable {E : Kn} {ts tz : TS}
/-- the ends, told from a later state -/
theorem EndsOk.later {Z : Ends} {O1 : List Addr} {H1 : Hp} (i : M.I H1) (z : EndsOk M O H E Z) (a : Stp M O H O1 H1) : EndsOk M O1 H1 E Z :=
  ⟨fun O2 r σ H2 R b q => z.nx O2 r σ H2 R (a.trans i b) q, z.rt, fun O2 r σ H2 R b q => z.bk O2 r σ H2 R (a.trans i b) q, fun O2 r σ H2 R b q => z.ct O2 r σ H2 R (a.trans i b) q⟩
theorem ds_seq (h : DS M ts O r { E with nx := fun O1 r1 => DS M tz O1 r1 E }) : DS M (tSeq ts tz) O r E := fun σ H Z R z =>
  h σ H _ R ⟨fun O1 r1 σ1 H1 R1 a q => q σ1 H1 Z R1 (z.later R1.inv a), z.rt, z.bk, z.ct⟩
theorem ds_next (h : E.nx O r) : DS M tNext O r E := fun σ H Z R z => z.nx O r σ H R .refl h
theorem ds_ret (h : De M te O r E.rt) : DS M (tRet te) O r E := fun σ H Z R z =>
  h σ H _ R fun v H1 d R1 e1 p1 q => z.rt v H1 d R1.sm R1.inv (p1.less fun a h => .inl h) q
theorem ds_retN (h : E.rt .non) : DS M tRetN O r E := fun σ H Z R z => z.rt .non H .non R.sm R.inv rfl h
theorem ds_if (h : DT M tt O r fun b => if b = true then DS M ts O r E else DS M tz O r E) : DS M (tIfS tt ts tz) O r E := fun σ H Z R z => h σ H _ R fun b H1 R1 e1 q1 => by
  cases b with
  | true =>
    show ts Z σ H1
    exact q1 σ H1 Z R1 (z.later R1.inv (R1.stp e1))
  | false =>
    show tz Z σ H1
    exact q1 σ H1 Z R1 (z.later R1.inv (R1.stp e1))
theorem ds_drop (h : De M te O r fun _ => E.nx O r) : DS M (tDrop te) O r E := fun σ H Z R z => h σ H _ R fun v H1 d R1 e1 p1 q => z.nx O r σ H1 R1 (R1.stp e1) q
theorem ds_break (h : E.bk O r) : DS M tBreak O r E := fun σ H Z R z => z.bk O r σ H R .refl h
theorem ds_cont (h : E.ct O r) : DS M tCont O r E := fun σ H Z R z => z.ct O r σ H R .refl h
/-- a slot told anew -/
theorem Rp.set {i : Nat} {v : V} {s : Sl} (R : Rp M O r σ H) (hs : SlR M O H (some (some v)) s) (hm : ∀ p xs, s = .mu p xs → ∀ (j : Nat) (ys : List D), j ≠ i → r[j]? ≠ some (.mu p ys)) : Rp M O (r.set i s) (σ.set i (some v)) H := by
  refine ⟨R.sm, R.inv, R.own, R.nod, by rw [List.length_set, List.length_set]; exact R.len, fun j t ht => ?_, fun j l p xs ys h1 h2 => ?_⟩
  · by_cases e : i = j
    · subst e
      by_cases hi : i < r.length
      · rw [List.getElem?_set_self hi] at ht
        cases ht
        rw [List.getElem?_set_self (by rw [R.len]; exact hi)]
        exact hs
      · rw [List.getElem?_eq_none (by rw [List.length_set]; omega)] at ht
        cases ht
    · rw [List.getElem?_set_ne e] at ht
      rw [List.getElem?_set_ne e]
      exact R.slot j t ht
  · by_cases e1 : i = j
    · subst e1
      by_cases e2 : i = l
      · exact e2
      · rw [List.getElem?_set_ne e2] at h2
        have hi : i < r.length := by
          refine Nat.lt_of_not_le fun q => ?_
          rw [List.getElem?_eq_none (by rw [List.length_set]; exact q)] at h1
          cases h1
        rw [List.getElem?_set_self hi] at h1
        cases h1
        exact absurd h2 (hm p xs rfl l ys fun z => e2 z.symm)
    · rw [List.getElem?_set_ne e1] at h1
      by_cases e2 : i = l
      · subst e2
        have hi : i < r.length := by
          refine Nat.lt_of_not_le fun q => ?_
          rw [List.getElem?_eq_none (by rw [List.length_set]; exact q)] at h2
          cases h2
        rw [List.getElem?_set_self hi] at h2
        cases h2
        exact absurd h1 (hm p ys rfl j xs fun z => e1 z.symm)
      · rw [List.getElem?_set_ne e2] at h2
        exact R.one j l p xs ys h1 h2
theorem ds_asg {i : Nat} (h : De M te O r fun d => E.nx O (r.set i (.d d))) : DS M (tAsg te (gName i)) O r E := fun σ H Z R z =>
  h σ H _ R fun v H1 d R1 e1 p1 q => z.nx O _ _ H1 (R1.set (s := .d d) ⟨v, rfl, p1⟩ (fun p xs e => nomatch e)) (R1.stp e1) q
theorem plus_of {p : Addr} : ∀ a, nf M (p :: O) a → plus (nf M O) p a := fun a ha => by
  rcases ha with ha | ha
  · exact .inl (.inl ha)
  · rcases List.mem_cons.mp ha with rfl | ha
    · exact .inr rfl
    · exact .inl (.inr ha)
theorem RepL.own1 {p : Addr} {o : HO} {ds : List D} {vs : List V} (hp : H p = none) (h : RepL M.K (nf M O) H ds vs) : RepL M.K (nf M (p :: O)) (upd H p o) ds vs := ((h.more hp).less plus_of).mono ((sm_new hp).wide fun _ z => z.elim)
theorem Rep.own1 {p : Addr} {o : HO} {d : D} {v : V} (hp : H p = none) (h : Rep M.K (nf M O) H d v) : Rep M.K (nf M (p :: O)) (upd H p o) d v := ((h.more hp).less plus_of).mono ((sm_new hp).wide fun _ z => z.elim)
theorem free0 (R : Rp M O r σ H) {p : Addr} (hp : H p = none) : M.H0 p = none := by
  cases e : M.H0 p with
  | none => rfl
  | some o =>
    by_cases q : M.F0 p
    · exact absurd hp (M.tk H p R.inv q)
    · have := R.sm p o q e
      rw [hp] at this
      cases this
/-- a new address, one's own -/
theorem Rp.own1 {p : Addr} {o : HO} (R : Rp M O r σ H) (hp : H p = none) : Rp M (p :: O) r σ (upd H p o) := by
  have g : Sm (fun _ => False) H (upd H p o) := sm_new hp
  have R2 := R.grow g
  have nO : p ∉ O := fun z => (R.own p z).2 hp
  refine ⟨R2.sm, R2.inv, fun a ha => ?_, List.nodup_cons.mpr ⟨nO, R2.nod⟩, R2.len, fun j t ht => ?_, R2.one⟩
  · rcases List.mem_cons.mp ha with rfl | ha
    · exact ⟨free0 R hp, by rw [upd_same]; exact fun z => nomatch z⟩
    · exact R2.own a ha
  · have h1 := R.slot j t ht
    cases t with
    | un => trivial
    | d x =>
      obtain ⟨u, e2, h2⟩ := h1
      exact ⟨u, e2, h2.own1 hp⟩
    | mu l xs =>
      obtain ⟨e2, hl, ws, h2, h3⟩ := h1
      exact ⟨e2, List.mem_cons_of_mem _ hl, ws, g l _ (fun z => z) h2, h3.own1 hp⟩
theorem stp_new {H1 : Hp} (R1 : Rp M O r σ H1) (e1 : Sm M.F0 H H1) {p : Addr} {o : HO} (hp : H1 p = none) : Stp M O H (p :: O) (upd H1 p o) := by
  have i := R1.inv
  refine ⟨(sm_st e1).trans (sm_0 (sm_new hp)), fun a ha => ?_, fun a h => ?_⟩
  rcases List.mem_cons.mp ha with rfl | ha
  · right
    cases e : H a with
    | none => rfl
    | some o =>
      by_cases q : M.F0 a
      · exact absurd hp (M.tk H1 a i q)
      · rw [e1 a o q e] at hp
        cases hp
  · exact .inl ha
  · have h2 := R1.stays (sm_st e1) a h
    by_cases q : a = p
    · rw [q, upd_same]
      exact fun z => nomatch z
    · rw [upd_ne q]
      exact h2
/-- a new list of one's own: name = [..] -/
theorem ds_own {i : Nat} (h : DA M tl O r fun ds => ds.length ≤ sizeLine ∧ ∀ p, p ∉ O → E.nx (p :: O) (r.set i (.mu p ds))) : DS M (tAsg (tLst tl) (gName i)) O r E := fun σ H Z R z =>
  h σ H _ R fun vs H1 ds R1 e1 p1 q => ⟨by rw [← p1.length]; exact q.1, fun p hp => by
    have nO : p ∉ O := fun z => (R1.own p z).2 hp
    refine z.nx _ _ _ _ ((R1.own1 hp).set (i := i) (v := .ref p) (s := .mu p ds) ⟨rfl, List.mem_cons_self, vs, upd_same, p1.own1 hp⟩ fun l xs e j ys hj hy => ?_) (stp_new R1 e1 hp) (q.2 p nO)
    cases e
    exact nO (R1.slot j _ hy).2.1⟩
/-- an own list becomes data -/
theorem Rp.freeze {i : Nat} {p : Addr} {xs : List D} (R : Rp M O r σ H) (h : r[i]? = some (.mu p xs)) : Rp M (O.erase p) (r.set i (.d (.lst xs))) σ H := by
  obtain ⟨e1, hp, vs, h1, h2⟩ := R.slot i _ h
  have hi : i < r.length := (List.getElem?_eq_some_iff.mp h).1
  have w : ∀ a, nf M (O.erase p) a → nf M O a := fun a ha => ha.imp id List.mem_of_mem_erase
  have np : ¬ nf M (O.erase p) p := by
    rintro (q | q)
    · exact M.tr p q (R.own p hp).1
    · exact (R.nod.mem_erase_iff.mp q).1 rfl
  refine ⟨R.sm, R.inv, fun a ha => R.own a (List.mem_of_mem_erase ha), R.nod.erase p, by rw [List.length_set]; exact R.len, fun j t ht => ?_, fun j l q ys zs a1 a2 => ?_⟩
  · by_cases e : i = j
    · subst e
      rw [List.getElem?_set_self hi] at ht
      cases ht
      exact ⟨.ref p, e1, p, vs, rfl, .inl ⟨np, .inl h1⟩, h2.less w⟩
    · rw [List.getElem?_set_ne e] at ht
      have q := R.slot j t ht
      cases t with
      | un => trivial
      | d x =>
        obtain ⟨u, e2, q2⟩ := q
        exact ⟨u, e2, q2.less w⟩
      | mu l ys =>
        obtain ⟨e2, hl, ws, q2, q3⟩ := q
        refine ⟨e2, R.nod.mem_erase_iff.mpr ⟨fun z => ?_, hl⟩, ws, q2, q3.less w⟩
        subst z
        exact e (R.one i j l xs ys h ht)
  · have a1' : i ≠ j := fun z => by
      subst z
      rw [List.getElem?_set_self hi] at a1
      cases a1
    have a2' : i ≠ l := fun z => by
      subst z
      rw [List.getElem?_set_self hi] at a2
      cases a2
    rw [List.getElem?_set_ne a1'] at a1
    rw [List.getElem?_set_ne a2'] at a2
    exact R.one j l q ys zs a1 a2
theorem ds_freeze (i : Nat) {p : Addr} {xs : List D} (h : r[i]? = some (.mu p xs)) (q : DS M ts (O.erase p) (r.set i (.d (.lst xs))) E) : DS M ts O r E := fun σ H Z R z => q σ H Z (R.freeze h) (z.later R.inv ⟨.refl, fun a ha => .inl (List.mem_of_mem_erase ha), fun _ h => h⟩)
/-- flat data: no object -/
def D.flat : D → Bool
  | .lst _ => false
  | .tup _ => false
  | .ins _ _ _ => false
  | .exc _ _ _ => false
  | _ => true
theorem flat_rep {K : PySem.W.Frag} {N N' : No} {H H' : Hp} {d : D} {v : V} (f : d.flat = true) (h : Rep K N H d v) : Rep K N' H' d v := by
  cases d <;> first
    | exact h
    | cases f
/-- an own list read as data, for an answer that holds no object -/
theorem de_borrow (i : Nat) {p : Addr} {xs : List D} (h : r[i]? = some (.mu p xs)) (q : De M te (O.erase p) (r.set i (.d (.lst xs))) fun d => d.flat = true ∧ k d) : De M te O r k := fun σ H Q R z => by
  refine q σ H Q (R.freeze h) fun v H1 d R1 e1 p1 q1 => ?_
  exact z v H1 d (R.step e1 R1.inv) e1 (flat_rep q1.1 p1) q1.2
theorem dt_borrow (i : Nat) {p : Addr} {xs : List D} (h : r[i]? = some (.mu p xs)) (q : DT M tt (O.erase p) (r.set i (.d (.lst xs))) kt) : DT M tt O r kt := fun σ H Q R z =>
  q σ H Q (R.freeze h) fun b H1 R1 e1 q1 => z b H1 (R.step e1 R1.inv) e1 q1
theorem DS.imp {E' : Kn} (h : DS M ts O r E) (i : ∀ O r, E.nx O r → E'.nx O r) (j : ∀ d, E.rt d → E'.rt d) (b : ∀ O r, E.bk O r → E'.bk O r) (c : ∀ O r, E.ct O r → E'.ct O r) : DS M ts O r E' := fun σ H Z R z =>
  h σ H Z R ⟨fun O1 r1 σ1 H1 R1 a q => z.nx O1 r1 σ1 H1 R1 a (i _ _ q), fun v H1 d s1 i1 p1 q => z.rt v H1 d s1 i1 p1 (j _ q), fun O1 r1 σ1 H1 R1 a q => z.bk O1 r1 σ1 H1 R1 a (b _ _ q), fun O1 r1 σ1 H1 R1 a q => z.ct O1 r1 σ1 H1 R1 a (c _ _ q)⟩
/-- an own list written -/
theorem Rp.write {i : Nat} {p : Addr} {xs ys : List D} {ws : List V} (R : Rp M O r σ H) (h : r[i]? = some (.mu p xs)) (hw : RepL M.K (nf M O) H ys ws) : Rp M O (r.set i (.mu p ys)) σ (upd H p (.lst ws)) := by
  obtain ⟨e1, hp, vs, h1, h2⟩ := R.slot i _ h
  have hi : i < r.length := (List.getElem?_eq_some_iff.mp h).1
  have fp : M.H0 p = none := (R.own p hp).1
  have e : Sm (nf M O) H (upd H p (.lst ws)) := fun a o n e => by
    rw [upd_ne fun z => n (.inr (by rw [z]; exact hp))]
    exact e
  have at' : ∀ {m : Nat} {q : Addr} {zs : List D}, (r.set i (.mu p ys))[m]? = some (.mu q zs) → (m = i ∧ q = p) ∨ (m ≠ i ∧ r[m]? = some (.mu q zs)) := fun {m q zs} a => by
    by_cases em : i = m
    · subst em
      rw [List.getElem?_set_self hi] at a
      cases a
      exact .inl ⟨rfl, rfl⟩
    · rw [List.getElem?_set_ne em] at a
      exact .inr ⟨fun z => em z.symm, a⟩
  refine ⟨fun a o n e => ?_, M.st H _ R.inv fun a o f e => ?_, fun a ha => ⟨(R.own a ha).1, ?_⟩, R.nod, by rw [List.length_set]; exact R.len, fun j t ht => ?_, fun j l q zs us a1 a2 => ?_⟩
  · rw [upd_ne (ne_of_none e fp)]
    exact R.sm a o n e
  · rw [upd_ne fun z => M.tr a (M.f0 a f) (by rw [z]; exact fp)]
    exact e
  · by_cases q : a = p
    · rw [q, upd_same]
      exact fun z => nomatch z
    · rw [upd_ne q]
      exact (R.own a ha).2
  · by_cases ej : i = j
    · subst ej
      rw [List.getElem?_set_self hi] at ht
      cases ht
      exact ⟨e1, hp, ws, upd_same, hw.mono e⟩
    · rw [List.getElem?_set_ne ej] at ht
      have h1 := R.slot j t ht
      cases t with
      | un => trivial
      | d x =>
        obtain ⟨u, e2, h2⟩ := h1
        exact ⟨u, e2, h2.mono e⟩
      | mu l zs =>
        obtain ⟨e2, hl, us, h2, h3⟩ := h1
        refine ⟨e2, hl, us, ?_, h3.mono e⟩
        rw [upd_ne fun z => by
          subst z
          exact ej (R.one i j l xs zs h ht)]
        exact h2
  · rcases at' a1 with ⟨rfl, rfl⟩ | ⟨n1, b1⟩
    · rcases at' a2 with ⟨rfl, _⟩ | ⟨n2, b2⟩
      · rfl
      · exact absurd (R.one _ _ _ _ _ h b2) fun z => n2 z.symm
    · rcases at' a2 with ⟨rfl, rfl⟩ | ⟨n2, b2⟩
      · exact absurd (R.one _ _ _ _ _ h b1) fun z => n1 z.symm
      · exact R.one j l q zs us b1 b2
theorem stp_write {i : Nat} {p : Addr} {xs : List D} {ws : List V} {H1 : Hp} (R : Rp M O r σ H1) (h : r[i]? = some (.mu p xs)) (e1 : Sm M.F0 H H1) : Stp M O H O (upd H1 p (.lst ws)) := by
  have hp := (R.slot i _ h).2.1
  refine ⟨fun a o n e => ?_, fun _ h => .inl h, fun a h => ?_⟩
  · rw [upd_ne fun z => n (.inr (by rw [z]; exact hp))]
    exact e1 a o (fun z => n (.inl z)) e
  · have h2 := R.stays (sm_st e1) a h
    by_cases q : a = p
    · rw [q, upd_same]
      exact fun z => nomatch z
    · rw [upd_ne q]
      exact h2
/-- xs.append(e) -/
theorem ds_append {i : Nat} {p : Addr} {xs : List D} (h : r[i]? = some (.mu p xs)) (hz : xs.length < sizeLine) (q : De M te O r fun d => E.nx O (r.set i (.mu p (xs ++ [d])))) :
    DS M (tDrop (tBM M.K "list" rAppend (tVar i) (tCons te tNil))) O r E := fun σ H Z R z => by
  obtain ⟨e1, hp, vs, h1, h2⟩ := R.slot i _ h
  refine ⟨.ref p, e1, .inl ⟨rfl, vs, .inl (.inl h1)⟩, ?_⟩
  refine q σ H _ R fun v H1 d R1 e2 p1 q1 => ?_
  obtain ⟨_, _, vs', h1', h2'⟩ := R1.slot i _ h
  refine ⟨p, vs', v, rfl, rfl, h1', by rw [← h2'.length]; exact hz, ?_⟩
  exact z.nx O _ σ _ (R1.write h (h2'.append (.one p1))) (stp_write R1 h e2) q1
end
end Dw

namespace Dw
open PySem PySem.Spec PyProof.Rows L2

/-! ### promises over data -/
/-- what a def may turn, told by a ghost -/
structure Sg where
  G : Type
  F0 : G → No
  I : G → Hp → Prop
  st : ∀ g H H', I g H → (∀ a o, F0 g a → H a = some o → H' a = some o) → I g H'
  tk : ∀ g H a, I g H → F0 g a → H a ≠ none
def pure0 : Sg := ⟨Unit, fun _ _ => False, fun _ _ => True, fun _ _ _ _ _ => trivial, fun _ _ _ _ h => h.elim⟩
def SpD (K : PySem.W.Frag) (S : Sg) (pre : S.G → List D → Prop) (post : S.G → List D → D → Prop) : Sp := fun vs H Q _ =>
  ∃ (g : S.G) (ds : List D) (F : No), RepL K F H ds vs ∧ (∀ a, S.F0 g a → F a) ∧ (∀ a, F a → H a ≠ none) ∧ S.I g H ∧ pre g ds ∧
    ∀ v H' d, Sm (S.F0 g) H H' → S.I g H' → Rep K F H' d v → post g ds d → Q v H'
/-- a pure def's promise -/
abbrev SpP (K : PySem.W.Frag) (pre : List D → Prop) (post : List D → D → Prop) : Sp := SpD K pure0 (fun _ => pre) (fun _ => post)

/-- the mode of a def's body -/
abbrev mdOf (K : PySem.W.Frag) (S : Sg) (g : S.G) (H : Hp) (F : No) (f0 : ∀ a, S.F0 g a → F a) (tr : ∀ a, F a → H a ≠ none) : Md :=
  ⟨K, H, S.F0 g, F, S.I g, f0, tr, S.st g, S.tk g⟩

/-- the slots at the entry -/
def startR (n : Nat) (ds : List D) : List Sl := ds.map Sl.d ++ List.replicate (n - ds.length) .un
theorem start_rp {M : Md} {N : List Str} {ds : List D} {vs : List V} (p : RepL M.K M.F M.H0 ds vs) (i : M.I M.H0) : Rp M [] (startR N.length ds) (start N vs) M.H0 := by
  have hl := p.length
  refine ⟨Sm.refl, i, (fun _ h => nomatch h), List.nodup_nil, ?_, (fun j s h => ?_), (fun j l q xs ys h _ => ?_)⟩
  · unfold L2.start startR
    rw [List.length_append, List.length_append, List.length_map, List.length_map, List.length_replicate, List.length_replicate, hl]
  · unfold startR at h
    by_cases hj : j < ds.length
    · rw [List.getElem?_append_left (by rw [List.length_map]; exact hj), List.getElem?_map, List.getElem?_eq_getElem hj] at h
      have h : some (Sl.d ds[j]) = some s := h
      cases h
      obtain ⟨v, q1, q2⟩ := p.get (List.getElem?_eq_getElem hj)
      refine ⟨v, ?_, q2.less fun a z => z.elim id (fun q => nomatch q)⟩
      unfold L2.start
      rw [List.getElem?_append_left (by rw [List.length_map, ← hl]; exact hj), List.getElem?_map, q1]
      rfl
    · rw [List.getElem?_append_right (by rw [List.length_map]; omega)] at h
      have h2 := List.eq_of_mem_replicate (List.mem_of_getElem? h)
      subst h2
      trivial
  · unfold startR at h
    by_cases hj : j < ds.length
    · rw [List.getElem?_append_left (by rw [List.length_map]; exact hj), List.getElem?_map, List.getElem?_eq_getElem hj] at h
      cases h
    · rw [List.getElem?_append_right (by rw [List.length_map]; omega)] at h
      have h2 := List.eq_of_mem_replicate (List.mem_of_getElem? h)
      cases h2
section
variable {P : Program} {w : World} {K : PySem.W.Frag} {mg : Str → Option Value} {base : Heap}
/-- a def by its body, over data -/
theorem fn_dw {x qual : Str} {st : Stmt} {f : Addr} {fd : FuncData} {N ps : List Str} {k : Nat} {S : Sg} {pre : S.G → List D → Prop} {post : S.G → List D → D → Prop} (F : Fun K x qual st f fd) (T : FnScope N ps (defScope st))
    (len : ∀ g ds, pre g ds → ds.length = ps.length)
    (body : ∀ (cdv : Value) (A : Around) (outer : List Env) (s : Shared) (H : Hp) (E : XK) (g : S.G) (ds : List D) (F1 : No) (f0 : ∀ a, S.F0 g a → F1 a) (tr : ∀ a, F1 a → H a ≠ none), Room k (A.deeper (envOfC qual (defScope st) s.heap.objs.size f cdv)) → pre g ds →
      ∃ t, PSs (cxOf CX0 P w K mg base N qual (defScope st) f cdv A outer s H E).nox (defBody st) t ∧ DS (mdOf K S g H F1 f0 tr) t [] (startR N.length ds) { nx := fun _ _ => post g ds .non, rt := post g ds }) : FnOk P w K mg base CX0 (k + 1) f fd ps (SpD K S pre post) := by
  refine F.ok T (fun vs H Q E h => ?_) (fun cdv A outer s H vs Q E hr h => ?_)
  · obtain ⟨g, ds, F1, p, _, _, _, q, _⟩ := h
    rw [← p.length, len g ds q]
  · obtain ⟨g, ds, F1, p, f0, tr, i, q, z⟩ := h
    obtain ⟨t, ht, hd⟩ := body cdv A outer s H E g ds F1 f0 tr hr q
    refine ⟨t, ht, hd _ H _ (start_rp (M := mdOf K S g H F1 f0 tr) p i) ⟨fun O r σ H1 R a q => z .non H1 .non R.sm R.inv rfl q, fun v H1 d s1 i1 p1 q => z v H1 d s1 i1 p1 q, fun _ _ _ _ _ _ q => q.elim, fun _ _ _ _ _ _ q => q.elim⟩⟩
end
section
variable {M : Md} {O : List Addr} {r : List Sl} {k : D → Prop} {tl : TA} {Ex : XK}
/-- a call -/
theorem de_call {S : Sg} {pre : S.G → List D → Prop} {post : S.G → List D → D → Prop} (g : S.G) (h0 : M.F0 = S.F0 g) (hI : M.I = S.I g)
    (h : DA M tl O r fun ds => pre g ds ∧ ∀ d, post g ds d → k d) : De M (tCall (SpD M.K S pre post) [] Ex tl) O r k := fun σ H Q R z => by
  refine h σ H _ R fun vs H1 ds R1 e1 p1 q => ?_
  rw [List.append_nil]
  refine ⟨g, ds, nf M O, p1, fun a x => .inl (M.f0 a (by rw [h0]; exact x)), nf_tr R1, by rw [← hI]; exact R1.inv, q.1, fun v H2 d s i p po => ?_⟩
  have s' : Sm M.F0 H1 H2 := by rw [h0]; exact s
  exact z v H2 d (R1.step s' (by rw [hI]; exact i)) (e1.trans s') p (q.2 d po)
theorem de_callP {pre : List D → Prop} {post : List D → D → Prop} (h : DA M tl O r fun ds => pre ds ∧ ∀ d, post ds d → k d) : De M (tCall (SpP M.K pre post) [] Ex tl) O r k := fun σ H Q R z => by
  refine h σ H _ R fun vs H1 ds R1 e1 p1 q => ?_
  rw [List.append_nil]
  exact ⟨(), ds, nf M O, p1, fun a x => x.elim, nf_tr R1, trivial, q.1, fun v H2 d s i p po => z v H2 d (R1.grow s) (e1.trans (sm_0 s)) p (q.2 d po)⟩
end

/-! ### what is walked -/
structure Wk (K : PySem.W.Frag) (J : It) (xs : List D) where
  G : No → Hp → Prop
  mono : ∀ N H H', Sm N H H' → G N H → G N H'
  gen : ∀ N N' H, (∀ a, N' a → N a ∨ H a = none) → G N H → G N' H
  go : ∀ N H i, G N H → i < xs.length → J.go i H
  yld : ∀ N H i x H' d, (∀ a, N a → H a ≠ none) → G N H → J.yld i H x H' → xs[i]? = some d → Sm (fun _ => False) H H' ∧ Rep K N H' d x
  stop : ∀ N H i, G N H → xs.length ≤ i → J.stop i H
def DI (M : Md) (wi : TI) (O : List Addr) (r : List Sl) (k : List D → Prop) : Prop :=
  ∀ σ H (Q : It → Hp → Prop), Rp M O r σ H → (∀ J H' xs (W : Wk M.K J xs), Rp M O r σ H' → Sm M.F0 H H' → W.G (nf M O) H' → k xs → Q J H') → wi σ H Q
section
variable {M : Md} {O : List Addr} {r : List Sl} {k : List D → Prop} {te : TE} {ta : TA}
def wk_list (K : PySem.W.Frag) (a : Addr) (xs : List D) : Wk K (Itl K a) xs where
  G := fun N H => ∃ vs, LAt K N H a vs ∧ RepL K N H xs vs
  mono := fun N H H' e ⟨vs, h1, h2⟩ => ⟨vs, h1.mono e, h2.mono e⟩
  gen := fun N N' H e ⟨vs, h1, h2⟩ => ⟨vs, h1.gen e, h2.gen e⟩
  go := fun N H i ⟨vs, h1, h2⟩ hi => ⟨vs, vs[i]'(by rw [← h2.length]; exact hi), h1.sq, List.getElem?_eq_getElem _⟩
  yld := fun N H i x H' d _ ⟨vs, h1, h2⟩ y hd => by
    obtain ⟨rfl, y⟩ := y
    obtain ⟨v, q1, q2⟩ := h2.get hd
    have := y vs h1.sq
    rw [q1] at this
    cases this
    exact ⟨.refl, q2⟩
  stop := fun N H i ⟨vs, h1, h2⟩ hi => ⟨vs, h1.sq, by rw [← h2.length]; exact hi⟩
def wk_tup (K : PySem.W.Frag) (a : Addr) (xs : List D) : Wk K (Itt K a) xs where
  G := fun N H => ∃ vs, TAt K N H a vs ∧ RepL K N H xs vs
  mono := fun N H H' e ⟨vs, h1, h2⟩ => ⟨vs, h1.mono e, h2.mono e⟩
  gen := fun N N' H e ⟨vs, h1, h2⟩ => ⟨vs, h1.gen e, h2.gen e⟩
  go := fun N H i ⟨vs, h1, h2⟩ hi => ⟨vs, vs[i]'(by rw [← h2.length]; exact hi), h1.sq, List.getElem?_eq_getElem _⟩
  yld := fun N H i x H' d _ ⟨vs, h1, h2⟩ y hd => by
    obtain ⟨rfl, y⟩ := y
    obtain ⟨v, q1, q2⟩ := h2.get hd
    have := y vs h1.sq
    rw [q1] at this
    cases this
    exact ⟨.refl, q2⟩
  stop := fun N H i ⟨vs, h1, h2⟩ hi => ⟨vs, h1.sq, by rw [← h2.length]; exact hi⟩
/-- lo, lo + 1, .. -/
def rangeD (lo : Int) (n : Nat) : List D := (List.range n).map fun (i : Nat) => D.int (lo + (i : Int))
theorem rangeD_len (lo : Int) (n : Nat) : (rangeD lo n).length = n := by
  unfold rangeD
  rw [List.length_map, List.length_range]
theorem rangeD_get {lo : Int} {n i : Nat} {d : D} (h : (rangeD lo n)[i]? = some d) : i < n ∧ d = .int (lo + (i : Int)) := by
  have hi : i < n := by
    have := (List.getElem?_eq_some_iff.mp h).1
    rw [rangeD_len] at this
    exact this
  refine ⟨hi, ?_⟩
  unfold rangeD at h
  rw [List.getElem?_map, List.getElem?_range hi] at h
  exact (Option.some.inj h).symm
def wk_range (K : PySem.W.Frag) (lo : Int) (n : Nat) : Wk K (Itr lo n) (rangeD lo n) where
  G := fun _ _ => True
  mono := fun _ _ _ _ _ => trivial
  gen := fun _ _ _ _ _ => trivial
  go := fun N H i _ hi => by
    rw [rangeD_len] at hi
    exact hi
  yld := fun N H i x H' d _ _ y hd => by
    obtain ⟨rfl, rfl⟩ := y
    obtain ⟨_, rfl⟩ := rangeD_get hd
    exact ⟨.refl, rfl⟩
  stop := fun N H i _ hi => by
    rw [rangeD_len] at hi
    exact hi
theorem di_list (h : De M te O r fun x => ∃ xs, x = .lst xs ∧ k xs) : DI M (iList M.K te) O r k := fun σ H Q R z => h σ H _ R fun v H1 x R1 e1 p1 q => by
  obtain ⟨xs, rfl, q⟩ := q
  obtain ⟨a, vs, rfl, h1, h2⟩ := p1
  exact ⟨a, rfl, ⟨vs, h1.sq⟩, z _ H1 xs (wk_list M.K a xs) R1 e1 ⟨vs, h1, h2⟩ q⟩
theorem di_tup (h : De M te O r fun x => ∃ xs, x = .tup xs ∧ k xs) : DI M (iTup M.K te) O r k := fun σ H Q R z => h σ H _ R fun v H1 x R1 e1 p1 q => by
  obtain ⟨xs, rfl, q⟩ := q
  obtain ⟨a, vs, rfl, h1, h2⟩ := p1
  exact ⟨a, rfl, ⟨vs, h1.sq⟩, z _ H1 xs (wk_tup M.K a xs) R1 e1 ⟨vs, h1, h2⟩ q⟩
theorem di_range1 (h : DA M ta O r fun ds => ∃ n : Int, ds = [.int n] ∧ (-(2 ^ 62) ≤ n ∧ n < 2 ^ 62) ∧ k (rangeD 0 n.toNat)) : DI M (iRng1 ta) O r k := fun σ H Q R z => h σ H _ R fun vs H1 ds R1 e1 p1 q => by
  obtain ⟨n, rfl, ⟨b1, b2⟩, q⟩ := q
  have e : vs = [.int n] := repL_ints (ns := [n]) p1
  exact ⟨n, e, b1, b2, z _ H1 _ (wk_range M.K 0 n.toNat) R1 e1 trivial q⟩
theorem di_range2 (h : DA M ta O r fun ds => ∃ m n : Int, ds = [.int m, .int n] ∧ (-(2 ^ 62) ≤ m ∧ m < 2 ^ 62 ∧ -(2 ^ 62) ≤ n ∧ n < 2 ^ 62) ∧ k (rangeD m (n - m).toNat)) : DI M (iRng2 ta) O r k := fun σ H Q R z => h σ H _ R fun vs H1 ds R1 e1 p1 q => by
  obtain ⟨m, n, rfl, b, q⟩ := q
  have e : vs = [.int m, .int n] := repL_ints (ns := [m, n]) p1
  exact ⟨m, n, e, b, z _ H1 _ (wk_range M.K m (n - m).toNat) R1 e1 trivial q⟩
end

/-! ### targets -/
def DG (M : Md) (g : TG) (js : List Nat) (O : List Addr) (r : List Sl) (d : D) (k : List Sl → Prop) : Prop :=
  ∀ v σ H (Q : L2.St → Hp → Prop), Rp M O r σ H → Rep M.K (nf M O) H d v → (∀ σ' r', Rp M O r' σ' H → (∀ vs : List Nat, (∀ j ∈ js, j ∈ vs) → wipe σ' vs = wipe σ vs) → k r' → Q σ' H) → g v σ H Q
def DGs (M : Md) (g : TGs) (js : List Nat) (O : List Addr) (r : List Sl) (ds : List D) (k : List Sl → Prop) : Prop :=
  ∀ vs σ H (Q : L2.St → Hp → Prop), Rp M O r σ H → RepL M.K (nf M O) H ds vs → (∀ σ' r', Rp M O r' σ' H → (∀ ws : List Nat, (∀ j ∈ js, j ∈ ws) → wipe σ' ws = wipe σ ws) → k r' → Q σ' H) → g vs σ H Q
theorem wipe_set_out {σ : L2.St} {i : Nat} {x : Option V} : ∀ {vs : List Nat}, i ∉ vs → wipe (σ.set i x) vs = (wipe σ vs).set i x
  | [], _ => rfl
  | j :: r, h => by
    show (wipe (σ.set i x) r).set j none = ((wipe σ r).set j none).set i x
    rw [wipe_set_out fun z => h (List.mem_cons_of_mem _ z), List.set_comm _ _ fun z => h (by rw [z]; simp)]
theorem wipe_set {σ : L2.St} {i : Nat} {x : Option V} : ∀ {vs : List Nat}, i ∈ vs → wipe (σ.set i x) vs = wipe σ vs
  | [], h => nomatch h
  | j :: r, h => by
    show (wipe (σ.set i x) r).set j none = (wipe σ r).set j none
    by_cases hr : i ∈ r
    · rw [wipe_set hr]
    · have e : i = j := (List.mem_cons.mp h).resolve_right hr
      subst e
      rw [wipe_set_out hr, List.set_set]
section
variable {M : Md} {O : List Addr} {r : List Sl} {k : List Sl → Prop}
theorem dg_name {j : Nat} {d : D} (h : k (r.set j (.d d))) : DG M (gName j) [j] O r d k := fun v σ H Q R p z =>
  z _ _ (R.set (s := .d d) ⟨v, rfl, p⟩ (fun p xs e => nomatch e)) (fun vs hv => wipe_set (hv j (by simp))) h
theorem dgs_nil (h : k r) : DGs M gNil [] O r [] k := fun vs σ H Q R p z => ⟨p, z _ _ R (fun _ _ => rfl) h⟩
theorem dgs_cons {g : TG} {gs : TGs} {js ls : List Nat} {d : D} {ds : List D} (h : DG M g js O r d fun r1 => DGs M gs ls O r1 ds k) : DGs M (gCons g gs) (js ++ ls) O r (d :: ds) k := fun vs σ H Q R p z => by
  obtain ⟨v, ws, rfl, p1, p2⟩ := p
  refine ⟨v, ws, rfl, h v σ H _ R p1 fun σ1 r1 R1 w1 q1 => q1 ws σ1 H Q R1 p2 fun σ2 r2 R2 w2 q2 => z _ _ R2 (fun us hu => ?_) q2⟩
  rw [w2 us fun j hj => hu j (List.mem_append_right _ hj), w1 us fun j hj => hu j (List.mem_append_left _ hj)]
theorem dg_tup {gs : TGs} {js : List Nat} {n : Nat} {ds : List D} (hn : ds.length = n) (h : DGs M gs js O r ds k) : DG M (gTup M.K n gs) js O r (.tup ds) k := fun v σ H Q R p z => by
  obtain ⟨a, vs, rfl, h1, h2⟩ := p
  exact ⟨a, vs, rfl, h1.sq, by rw [← h2.length, hn], h vs σ H Q R h2 z⟩
end

/-! ### comprehensions -/
def wipeR (r : List Sl) : List Nat → List Sl
  | [] => r
  | j :: js => (wipeR r js).set j .un
def muOk (r : List Sl) (vs : List Nat) : Bool := vs.all fun j => match r[j]? with
  | some (.mu _ _) => false
  | _ => true
section
variable {M : Md} {O : List Addr} {r : List Sl} {σ : L2.St} {H H' : Hp}
theorem Rp.unset {i : Nat} (R : Rp M O r σ H) : Rp M O (r.set i .un) (σ.set i none) H := by
  refine ⟨R.sm, R.inv, R.own, R.nod, by rw [List.length_set, List.length_set]; exact R.len, fun j t ht => ?_, fun j l p xs ys h1 h2 => ?_⟩
  · by_cases e : i = j
    · subst e
      by_cases hi : i < r.length
      · rw [List.getElem?_set_self hi] at ht
        cases ht
        trivial
      · rw [List.getElem?_eq_none (by rw [List.length_set]; omega)] at ht
        cases ht
    · rw [List.getElem?_set_ne e] at ht
      rw [List.getElem?_set_ne e]
      exact R.slot j t ht
  · have a : ∀ {m : Nat} {zs : List D}, (r.set i .un)[m]? = some (.mu p zs) → r[m]? = some (.mu p zs) := fun {m zs} h => by
      by_cases e : i = m
      · subst e
        by_cases hi : i < r.length
        · rw [List.getElem?_set_self hi] at h
          cases h
        · rw [List.getElem?_eq_none (by rw [List.length_set]; omega)] at h
          cases h
      · rw [List.getElem?_set_ne e] at h
        exact h
    exact R.one j l p xs ys (a h1) (a h2)
theorem Rp.wipe (R : Rp M O r σ H) : ∀ vs : List Nat, Rp M O (wipeR r vs) (wipe σ vs) H
  | [] => R
  | j :: vs => (Rp.wipe R vs).unset (i := j)
/-- back from a block: the slots as they were ahead of it -/
theorem Rp.back {O' : List Addr} {r' : List Sl} {σ' : L2.St} (R : Rp M O r σ H) (R' : Rp M O' r' σ' H') (e : Sm M.F0 H H') : Rp M O r σ H' := R.step e R'.inv
theorem wipeR_get {vs : List Nat} : ∀ {r : List Sl} {i : Nat}, i ∉ vs → (wipeR r vs)[i]? = r[i]? := by
  induction vs with
  | nil => intro r i _; rfl
  | cons j js ih =>
    intro r i h
    show ((wipeR r js).set j .un)[i]? = _
    rw [List.getElem?_set_ne fun z => h (by rw [z]; simp), ih fun z => h (List.mem_cons_of_mem _ z)]
theorem muOk_not {vs : List Nat} {p : Addr} {xs : List D} {i : Nat} (h : muOk r vs = true) (e : r[i]? = some (.mu p xs)) : i ∉ vs := fun hi => by
  have := List.all_eq_true.mp h i hi
  rw [e] at this
  exact nomatch this
end
end Dw

namespace Dw
open PySem PySem.Spec PyProof.Rows L2
theorem wipe_wipe {σ : L2.St} {vs : List Nat} : ∀ {us : List Nat}, (∀ j ∈ us, j ∈ vs) → wipe (wipe σ us) vs = wipe σ vs
  | [], _ => rfl
  | j :: us, h => by
    show wipe ((wipe σ us).set j none) vs = _
    rw [wipe_set (h j (by simp)), wipe_wipe fun l hl => h l (List.mem_cons_of_mem _ hl)]
section
variable {M : Md} {O : List Addr} {r : List Sl} {wi : TI} {g : TG} {tt : TT} {te : TE} {vs js : List Nat} {k : D → Prop}
/-- [te for g in wi if tt]: R tells the items made in the first i turns -/
theorem de_lc (hjs : ∀ j ∈ js, j ∈ vs) (h : DI M wi O r fun xs => xs.length < sizeLine ∧ ∃ R : Nat → List D → Prop, R 0 [] ∧
    (∀ (O' : List Addr) (i : Nat) (x : D) (ys : List D), xs[i]? = some x → R i ys → DG M g js O' (wipeR r vs) x fun r2 => DT M tt O' r2 fun b => if b = true then De M te O' r2 fun y => R (i + 1) (ys ++ [y]) else R (i + 1) ys) ∧
    ∀ ys, R xs.length ys → k (.lst ys)) : De M (tLc wi g tt te vs) O r k := fun σ H Q R0 z => by
  refine h σ H _ R0 fun J H1 xs W R1 e1 g1 q => ?_
  intro Dl hD
  obtain ⟨hz, R, r0, turn, fin⟩ := q
  have GD : W.G (nf M (Dl :: O)) (upd H1 Dl (.lst [])) := W.mono _ _ _ (sm_0 (sm_new hD)) (W.gen _ _ _ (fun a ha => (plus_of a ha).imp id fun z => by rw [z]; exact hD) g1)
  refine ⟨fun i m H2 => m = xs.length - i ∧ i ≤ xs.length ∧ ∃ ys acc, R i ys ∧ ys.length ≤ i ∧ H2 Dl = some (.lst acc) ∧ RepL M.K (nf M (Dl :: O)) H2 ys acc ∧ Rp M (Dl :: O) r σ H2 ∧ Sm M.F0 H1 H2 ∧ W.G (nf M (Dl :: O)) H2,
    ⟨xs.length, by simp, Nat.zero_le _, [], [], r0, Nat.le_refl _, upd_same, .nil, R1.own1 hD, sm_0 (sm_new hD), GD⟩, ?_⟩
  rintro i m H2 ⟨rfl, hi, ys, acc, hR, hy, hd, pa, R2, e2, g2⟩
  by_cases hlt : i < xs.length
  · refine .inr ⟨W.go _ _ i g2 hlt, _, fun H' p => ⟨xs.length - (i + 1), by omega, rfl, hlt, p⟩, fun x H3 y => ?_⟩
    obtain ⟨s3, p3⟩ := W.yld _ _ i x H3 _ (nf_tr R2) g2 y (List.getElem?_eq_getElem hlt)
    have R3 := R2.grow s3
    refine turn (Dl :: O) i _ ys (List.getElem?_eq_getElem hlt) hR x _ H3 _ (R3.wipe vs) p3 fun σ4 r4 R4 w4 q4 => ⟨?_, ?_⟩
    · rw [w4 vs hjs, wipe_wipe fun _ h => h]
    · refine q4 σ4 H3 _ R4 fun b H5 R5 e5 q5 => ?_
      have e35 : Sm M.F0 H2 H5 := (sm_0 s3).trans e5
      cases b with
      | false =>
        rw [if_neg Bool.false_ne_true] at q5 ⊢
        have R5' := R2.step e35 R5.inv
        have nD : ¬ M.F0 Dl := fun z => M.tr Dl (M.f0 Dl z) (R2.own Dl (by simp)).1
        exact ⟨ys, acc, q5, by omega, e35 Dl _ nD hd, pa.step e35, R5', e2.trans e35, W.mono _ _ _ (e35.wide nf0) g2⟩
      | true =>
        rw [if_pos rfl] at q5 ⊢
        refine q5 σ4 H5 _ R5 fun v H6 d R6 e6 p6 q6 => ?_
        have e26 : Sm M.F0 H2 H6 := e35.trans e6
        have nD : ¬ M.F0 Dl := fun z => M.tr Dl (M.f0 Dl z) (R2.own Dl (by simp)).1
        have hd6 := e26 Dl _ nD hd
        have pa6 := pa.step e26
        refine ⟨acc, hd6, by rw [← pa.length]; omega, ys ++ [d], acc ++ [v], q6, by simp; omega, upd_same, ?_, ?_, ?_, ?_⟩
        · have e : Sm (nf M (Dl :: O)) H6 (upd H6 Dl (.lst (acc ++ [v]))) := fun a o n e => by
            rw [upd_ne fun z => n (.inr (by rw [z]; simp))]
            exact e
          exact (pa6.append (.one p6)).mono e
        · -- the own list is in no slot
          have R6' := R2.step e26 R6.inv
          have fp : M.H0 Dl = none := (R2.own Dl (by simp)).1
          have nin : ∀ (j : Nat) (zs : List D), r[j]? ≠ some (.mu Dl zs) := fun j zs e => (R1.own Dl (R1.slot j _ e).2.1).2 hD
          have e : Sm (nf M (Dl :: O)) H6 (upd H6 Dl (.lst (acc ++ [v]))) := fun a o n e => by
            rw [upd_ne fun z => n (.inr (by rw [z]; simp))]
            exact e
          refine ⟨fun a o n e => ?_, M.st H6 _ R6'.inv fun a o f e => ?_, fun a ha => ⟨(R6'.own a ha).1, ?_⟩, R6'.nod, R6'.len, fun j t ht => ?_, R6'.one⟩
          · rw [upd_ne (ne_of_none e fp)]
            exact R6'.sm a o n e
          · rw [upd_ne fun z => M.tr a (M.f0 a f) (by rw [z]; exact fp)]
            exact e
          · by_cases q : a = Dl
            · rw [q, upd_same]
              exact fun z => nomatch z
            · rw [upd_ne q]
              exact (R6'.own a ha).2
          · have h1 := R6'.slot j t ht
            cases t with
            | un => trivial
            | d x =>
              obtain ⟨u, e2, h2⟩ := h1
              exact ⟨u, e2, h2.mono e⟩
            | mu l zs =>
              obtain ⟨e2, hl, us, h2, h3⟩ := h1
              refine ⟨e2, hl, us, ?_, h3.mono e⟩
              rw [upd_ne fun z => nin j zs (by rw [← z]; exact ht)]
              exact h2
        · exact fun a o n e => by
            have ea := e2.trans e26 a o n e
            rw [upd_ne (ne_of_none e hD)]
            exact ea
        · exact W.mono _ _ _ (fun a o n e => by
            rw [upd_ne fun z => n (.inr (by rw [z]; simp))]
            exact e26 a o (fun z => n (nf0 a z)) e) g2
  · have e : i = xs.length := by omega
    subst e
    refine .inl ⟨W.stop _ _ _ g2 (Nat.le_refl _), ?_⟩
    have w : ∀ a, nf M O a → nf M (Dl :: O) a := fun a ha => ha.imp id (List.mem_cons_of_mem _)
    refine z (.ref Dl) H2 (.lst ys) (R1.step e2 R2.inv) (e1.trans e2) ⟨Dl, acc, rfl, .inl ⟨new_no R1 hD, .inl hd⟩, pa.less w⟩ (fin ys hR)
/-- .. where the test and the item are functions of what is walked -/
theorem de_lcF (p : D → Bool) (f : D → D) (hjs : ∀ j ∈ js, j ∈ vs) (h : DI M wi O r fun xs => xs.length < sizeLine ∧
    (∀ (O' : List Addr) (i : Nat) (x : D), xs[i]? = some x → DG M g js O' (wipeR r vs) x fun r2 => DT M tt O' r2 fun b => b = p x ∧ (p x = true → De M te O' r2 fun y => y = f x)) ∧
    k (.lst ((xs.filter p).map f))) : De M (tLc wi g tt te vs) O r k :=
  de_lc hjs fun σ H Q R z => h σ H Q R fun J H1 xs W R1 e1 g1 ⟨hz, turn, fin⟩ => z J H1 xs W R1 e1 g1 ⟨hz, fun i ys => ys = ((xs.take i).filter p).map f, by simp, fun O' i x ys hx hy => by
    have ht : xs.take (i + 1) = xs.take i ++ [x] := by rw [List.take_add_one, hx]; rfl
    refine fun v σ H Q R pv z => turn O' i x hx v σ H Q R pv fun σ' r' R' w' q => z σ' r' R' w' (q.imp fun b ⟨hb, hq⟩ => ?_)
    subst hb
    cases e : p x with
    | true =>
      rw [if_pos rfl]
      refine (hq e).imp fun y hy2 => ?_
      show ys ++ [y] = ((xs.take (i + 1)).filter p).map f
      rw [ht, List.filter_append, List.map_append, hy, hy2, List.filter_cons_of_pos e]
      rfl
    | false =>
      rw [if_neg Bool.false_ne_true]
      show ys = ((xs.take (i + 1)).filter p).map f
      rw [ht, List.filter_append, List.map_append, hy, List.filter_cons_of_neg (by rw [e]; decide)]
      simp, fun ys hy => by
    rw [hy, List.take_length]
    exact fin⟩
/-- .. one item a turn, each of a kind -/
theorem de_lcP (C : Nat → D → D → Prop) (hjs : ∀ j ∈ js, j ∈ vs) (h : DI M wi O r fun xs => xs.length < sizeLine ∧
    (∀ (O' : List Addr) (i : Nat) (x : D), xs[i]? = some x → DG M g js O' (wipeR r vs) x fun r2 => De M te O' r2 (C i x)) ∧
    ∀ ys, ys.length = xs.length → (∀ (i : Nat) x y, xs[i]? = some x → ys[i]? = some y → C i x y) → k (.lst ys)) : De M (tLc wi g tYes te vs) O r k :=
  de_lc hjs fun σ H Q R z => h σ H Q R fun J H1 xs W R1 e1 g1 ⟨hz, turn, fin⟩ => z J H1 xs W R1 e1 g1 ⟨hz, fun i ys => ys.length = i ∧ ∀ (j : Nat) x y, xs[j]? = some x → ys[j]? = some y → C j x y, ⟨rfl, fun j x y _ e => by simp at e⟩, fun O' i x ys hx ⟨hl, hy⟩ => by
    refine fun v σ H Q R pv z => turn O' i x hx v σ H Q R pv fun σ' r' R' w' q => z σ' r' R' w' fun σ H Q R z => z true H R .refl (iteT ?_)
    refine q.imp fun y cy => ⟨by simp [hl], fun j a b ha hb => ?_⟩
    by_cases hj : j < ys.length
    · rw [List.getElem?_append_left hj] at hb
      exact hy j a b ha hb
    · rw [List.getElem?_append_right (by omega)] at hb
      have hj2 : j - ys.length = 0 := by
        refine Nat.eq_zero_of_not_pos fun q => ?_
        rw [List.getElem?_eq_none (by simp; omega)] at hb
        cases hb
      rw [hj2] at hb
      have ej : j = i := by omega
      subst ej
      rw [hx] at ha
      cases ha
      cases hb
      exact cy, fun ys ⟨hl, hy⟩ => fin ys hl hy⟩
end
/-! ### for -/
section
variable {M : Md} {O : List Addr} {r : List Sl} {wi : TI} {g : TG} {tb : TS} {js : List Nat} {E : Kn}
theorem ds_for (h : DI M wi O r fun xs => ∃ V : Nat → List Addr → List Sl → Prop, V 0 O r ∧
    (∀ (i : Nat) (x : D) (O' : List Addr) (r' : List Sl), xs[i]? = some x → V i O' r' → DG M g js O' r' x fun r2 => DS M tb O' r2 { E with nx := V (i + 1), ct := V (i + 1), bk := E.nx }) ∧
    ∀ (O' : List Addr) (r' : List Sl), V xs.length O' r' → E.nx O' r') : DS M (tFor wi g tb) O r E := fun σ H Z R0 z => by
  refine h σ H _ R0 fun J H1 xs W R1 e1 g1 ⟨V, v0, turn, fin⟩ => ?_
  have gI : W.G (fun a => nf M O a ∨ H1 a = none) H1 := W.gen _ _ _ (fun a ha => ha) g1
  refine ⟨fun i m σ2 H2 => m = xs.length - i ∧ i ≤ xs.length ∧ ∃ O2 r2, V i O2 r2 ∧ Rp M O2 r2 σ2 H2 ∧ Stp M O H1 O2 H2, ⟨xs.length, by simp, Nat.zero_le _, O, r, v0, R1, .refl⟩, ?_⟩
  rintro i m σ2 H2 ⟨rfl, hi, O2, r2, hv, R2, s2⟩
  have s02 : Stp M O H O2 H2 := Stp.trans R1.inv (R1.stp e1) s2
  have g2 : W.G (fun a => nf M O a ∨ H1 a = none) H2 := W.mono _ _ _ (s2.1.wide fun a ha => .inl (ha.imp (M.f0 a) id)) gI
  by_cases hlt : i < xs.length
  · refine .inr ⟨W.go _ _ i g2 hlt, fun σ3 H3 => ∃ O3 r3, V (i + 1) O3 r3 ∧ Rp M O3 r3 σ3 H3 ∧ Stp M O H1 O3 H3, fun σ' H' p => ⟨xs.length - (i + 1), by omega, rfl, hlt, p⟩, fun x H3 y => ?_⟩
    have g2' : W.G (nf M O2) H2 := W.gen _ _ _ (fun a ha => .inl (by
      rcases ha with ha | ha
      · exact .inl (.inl ha)
      · exact (s2.2.1 a ha).imp .inr id)) g2
    obtain ⟨s3, p3⟩ := W.yld _ _ i x H3 _ (nf_tr R2) g2' y (List.getElem?_eq_getElem hlt)
    have R3 := R2.grow s3
    have s13 : Stp M O H1 O2 H3 := Stp.trans R2.inv s2 (R3.stp (sm_0 s3))
    refine turn i _ O2 r2 (List.getElem?_eq_getElem hlt) hv x _ H3 _ R3 p3 fun σ4 r4 R4 w4 q4 => ?_
    have back : ∀ {O5 : List Addr} {H5 : Hp}, Stp M O2 H3 O5 H5 → Stp M O H1 O5 H5 := fun s => Stp.trans R3.inv s13 s
    refine q4 σ4 H3 _ R4 ⟨fun O5 r5 σ5 H5 R5 s5 q5 => ⟨O5, r5, q5, R5, back s5⟩, fun v H5 d s1 i1 p1 q5 => z.rt v H5 d s1 i1 p1 q5, fun O5 r5 σ5 H5 R5 s5 q5 => ?_, fun O5 r5 σ5 H5 R5 s5 q5 => ⟨O5, r5, q5, R5, back s5⟩⟩
    exact z.nx O5 r5 σ5 H5 R5 (Stp.trans R1.inv (R1.stp e1) (back s5)) q5
  · have e : i = xs.length := by omega
    subst e
    exact .inl ⟨W.stop _ _ _ g2 (Nat.le_refl _), z.nx O2 r2 σ2 H2 R2 s02 (fin O2 r2 hv)⟩
/-- while, by a word over the slots and a measure -/
theorem ds_while {tc : TT} (V : List Addr → List Sl → Prop) (m : List Sl → Nat) (v0 : V O r) (turn : ∀ (O' : List Addr) (r' : List Sl), V O' r' → DT M tc O' r' fun b => if b = true then DS M tb O' r' { E with nx := fun O2 r2 => V O2 r2 ∧ m r2 < m r', ct := fun O2 r2 => V O2 r2 ∧ m r2 < m r', bk := E.nx } else E.nx O' r') : DS M (tWhile tc tb) O r E := fun σ H Z R0 z => by
  refine ⟨fun n σ2 H2 => ∃ O2 r2, n = m r2 ∧ V O2 r2 ∧ Rp M O2 r2 σ2 H2 ∧ Stp M O H O2 H2, ⟨m r, O, r, rfl, v0, R0, .refl⟩, ?_⟩
  rintro n σ2 H2 ⟨O2, r2, rfl, hv, R2, s2⟩
  refine turn O2 r2 hv σ2 H2 _ R2 fun b H3 R3 e3 q3 => ?_
  have s3 : Stp M O H O2 H3 := Stp.trans R2.inv s2 (R3.stp e3)
  cases b with
  | false =>
    rw [if_neg Bool.false_ne_true] at q3 ⊢
    exact z.nx O2 r2 σ2 H3 R3 s3 q3
  | true =>
    rw [if_pos rfl] at q3 ⊢
    refine ⟨fun σ5 H5 => ∃ O5 r5, (V O5 r5 ∧ m r5 < m r2) ∧ Rp M O5 r5 σ5 H5 ∧ Stp M O H O5 H5, fun σ5 H5 ⟨O5, r5, ⟨a, b⟩, c, d⟩ => ⟨m r5, b, O5, r5, rfl, a, c, d⟩, ?_⟩
    have back : ∀ {O5 : List Addr} {H5 : Hp}, Stp M O2 H3 O5 H5 → Stp M O H O5 H5 := fun s => Stp.trans R3.inv s3 s
    exact q3 σ2 H3 _ R3 ⟨fun O5 r5 σ5 H5 R5 s5 q5 => ⟨O5, r5, q5, R5, back s5⟩, fun v H5 d s1 i1 p1 q5 => z.rt v H5 d s1 i1 p1 q5, fun O5 r5 σ5 H5 R5 s5 q5 => z.nx O5 r5 σ5 H5 R5 (back s5) q5, fun O5 r5 σ5 H5 R5 s5 q5 => ⟨O5, r5, q5, R5, back s5⟩⟩
end
end Dw

/-! list(reversed(a list)): a rule over the library's walks. -/
namespace Dw
open PySem PySem.Spec PyProof.Rows L2
theorem lri_no_len : typeLookup (.type "list_reverseiterator") "__len__" = pure none := by rw [typeLookup_type, builtinLookup_eq_fast]; kernel_rfl
theorem lri_hint : typeLookup (.type "list_reverseiterator") "__length_hint__" = pure (some (.builtin "list_reverseiterator.__length_hint__")) := by rw [typeLookup_type, builtinLookup_eq_fast]; kernel_rfl
theorem lri_sub : isSubtype (.type "list_reverseiterator") (.type "list_reverseiterator") = pure true := by rw [isSubtype_type]; kernel_rfl
section
variable {prog : Program} {w : World} {A : Around} {s : Shared} {E : Value → Shared → Prop}
theorem hint_rev {I : Addr} {Q : Bool → Shared → Prop} (kindR : s.TypeIs (.ref I) "list_reverseiterator") (h : Q false s) : wpAny (model prog w) A (Builtin.List.listLengthHint (.ref I)) Q E s := by
  unfold Builtin.List.listLengthHint
  refine wpAny_bind (wpAny_specialOf kindR lri_no_len ?_)
  show wpAny _ A (specialOf (Value.ref I) (Str.ofString "__length_hint__") >>= _) _ _ _
  refine wpAny_bind (wpAny_specialOf kindR lri_hint ?_)
  generalize nm : ("list_reverseiterator.__length_hint__" : String) = nm0
  wp_delta
  rw [show splitId nm0 = some ("list_reverseiterator", "__length_hint__") from by subst nm; decide +kernel]
  subst nm
  refine wpAny_bind (wpAny_isInstance (T := "list_reverseiterator") (b := true) kindR lri_sub ?_)
  refine wpAny_ite_split (fun no => absurd no (by decide)) (fun _ => ?_)
  refine wpAny_ite_split (fun _ => ?_) (fun no => absurd (by decide +kernel) no)
  refine wpAny_ite_split (fun no => absurd no (by decide +kernel)) (fun _ => ?_)
  exact wpAny_pure h
variable {R : Result → Shared → Prop} {I : Addr} {fp wr : List Addr} {G : Array GenState → Array GenState → Prop} {n : Nat} {P : Nat → Value → Prop} {St : Nat → Shared → Prop}
theorem extend_rev (W : WalksS prog w A.in1 I fp wr G n P St) (kindR : ∀ i s, St i s → s.TypeIs (.ref I) "list_reverseiterator") (S : Addr) (res : Value) (c0 : Nat) (atS : St 0 s) (outF : S ∉ fp) (hI : I ∈ fp)
    (cell : s.heap.get? S = some { cls := .type "list", data := .seq #[] c0 })
    (hR : ∀ s' xs1 cp1, Moved (S :: wr) G s s' → s'.heap.get? S = some { cls := .type "list", dict := none, data := .seq xs1 cp1, slots := #[] } → ItemsOf P xs1 n → R (.ok (.ret res)) s') (hn : n ≤ sizeLine) :
    wpAny (model prog w) A.in1 (Builtin.List.listExtendWith (.ref S) (.ref I) res)
      (fun fin s' => match fin with | .done f => R (.ok f) s' | .again cp1 => cp1.quiet = true ∧ codeAny (model prog w) A cp1 R s') (fun e s' => R (.error e) s') s := by
  have nIn : S ≠ I := fun e => outF (e ▸ hI)
  unfold Builtin.List.listExtendWith
  refine wpAny_bind (wpAny_typeOf (kindR 0 _ atS) ?_)
  have e1q : Builtin.List.listSameRef (.ref S) (.ref I) = false := by simp [Builtin.List.listSameRef, nIn]
  have e2q : (Value.type "list_reverseiterator" == Value.type "list") = false := by decide
  have e3q : (Value.type "list_reverseiterator" == Value.type "tuple") = false := by decide
  simp only [e1q, e2q, e3q, Bool.or_false, Bool.false_eq_true, if_false]
  refine wpAny_bind (W.self 0 _ _ _ atS ?_)
  refine wpAny_bind (wpAny_holding (hint_rev (kindR 0 _ atS) ?_))
  refine wpAny_pure ⟨plainId_quiet F.plain_extend_loop _, codeAny_extend_loopS W hn S outF res n 0 s #[] c0 rfl (Nat.zero_le _) atS cell (ItemsOf.nil P) fun s' xs1 cp1 hm cell1 got => ?_⟩
  exact hR s' xs1 cp1 hm cell1 got
theorem list_init_rev (W : WalksS prog w A.in1 I fp wr G n P St) (kindR : ∀ i s, St i s → s.TypeIs (.ref I) "list_reverseiterator") (S : Addr) (atS : St 0 s) (outF : S ∉ fp) (hI : I ∈ fp)
    (cell : s.heap.get? S = some { cls := .type "list", data := .seq #[] })
    (hR : ∀ s' xs1 cp1, Moved (S :: wr) G s s' → s'.heap.get? S = some { cls := .type "list", dict := none, data := .seq xs1 cp1, slots := #[] } → ItemsOf P xs1 n → R (.ok (.ret .none)) s') (hn : n ≤ sizeLine) :
    wpAny (model prog w) A.in1 (Builtin.«list.__init__» ⟨[.ref S, .ref I], []⟩)
      (fun fin s' => match fin with | .done f => R (.ok f) s' | .again cp1 => cp1.quiet = true ∧ codeAny (model prog w) A cp1 R s') (fun e s' => R (.error e) s') s := by
  show wpAny _ A.in1 (do let old ← Builtin.List.listItems (.ref S); Builtin.List.listUpdate (.ref S) (fun _ => #[]); letGo old.toList.reverse; Builtin.List.listExtendWith (.ref S) (.ref I) .none) _ _ s
  refine wpAny_bind ?_
  unfold Builtin.List.listItems
  refine wpAny_bind (wpAny_seqItems cell rfl (wpAny_pure ?_))
  show wpAny _ A.in1 (updateSeq S (fun _ => #[]) >>= fun _ => letGo (#[] : Array Value).toList.reverse >>= fun _ => Builtin.List.listExtendWith (.ref S) (.ref I) .none) _ _ s
  refine wpAny_bind (wpAny_updateSeq cell rfl ?_)
  have cell2 := Heap.get?_update_self (Obj.mapSeq (fun _ => (#[] : Array Value))) cell rfl
  have rest : ∀ b o, b ≠ S → s.heap.get? b = some o → (s.heap.update S (Obj.mapSeq (fun _ => (#[] : Array Value)))).get? b = some o :=
    fun b o hb e => (Heap.get?_update_other _ _ (Ne.symm hb)).trans e
  refine wpAny_bind (wpAny_letGo ?_)
  refine extend_rev W kindR S .none _ (W.frame 0 s _ s.toks atS (Nat.le_refl _) fun b hb o e => rest b o (fun h => outF (h ▸ hb)) e) outF hI cell2 (fun s' xs1 cp1 hm cell1 got => ?_) hn
  exact hR s' xs1 cp1 (Moved.trans W.gtrans ((Moved.refl W.grefl).then_heap (Nat.le_refl _) fun b o hb e => rest b o (fun h => hb (h ▸ List.mem_cons_self)) e) hm) cell1 got
end
section
variable {prog : Program} {w : World} {A : Around} {s : Shared} {E : Value → Shared → Prop}
variable {I : Addr} {fp wr : List Addr} {G : Array GenState → Array GenState → Prop} {n : Nat} {P : Nat → Value → Prop} {St : Nat → Shared → Prop}
theorem call_list_revW {Q : Value → Shared → Prop} (W : WalksS prog w A.in1.in1 I fp wr G n P St) (kindR : ∀ i s, St i s → s.TypeIs (.ref I) "list_reverseiterator") (atS : St 0 s) (below : ∀ b ∈ fp, b < s.heap.objs.size) (hI : I ∈ fp)
    (hQ : ∀ s' xs1 cp1, Moved (s.heap.objs.size :: wr) G { s with heap := s.heap.push { cls := .type "list", data := .seq #[] } } s' →
      s'.heap.get? s.heap.objs.size = some { cls := .type "list", dict := none, data := .seq xs1 cp1, slots := #[] } → ItemsOf P xs1 n → Q (.ref s.heap.objs.size) s') (hn : n ≤ sizeLine) :
    wpAny (model prog w) A (call (.type "list") [.ref I]) Q E s := by
  have outF : s.heap.objs.size ∉ fp := fun hm => Nat.lt_irrefl _ (below _ hm)
  refine callType_codes (Q₁ := fun obj s1 => obj = .ref s.heap.objs.size ∧ s1 = { s with heap := s.heap.push { cls := .type "list", data := .seq #[] } }) F.called_list (F.typeCall_list_1 _) F.entry_list_init
    (code_list_new _ ⟨rfl, rfl⟩) fun obj s1 e1q => ?_
  obtain ⟨rfl, rfl⟩ := e1q
  have cell : (s.heap.push { cls := .type "list", data := .seq #[] }).get? s.heap.objs.size = some { cls := .type "list", data := .seq #[] } := Heap.get?_push_size _ rfl
  refine ⟨⟨_, cell, rfl⟩, F.args_list_init_2 _ _, list_init_rev W kindR _ (W.frame 0 s _ s.toks atS (Nat.le_refl _) fun b _ o e => Heap.get?_push_of_some _ e) outF hI cell (fun s' xs1 cp1 hm cell1 got => ?_) hn⟩
  exact ⟨rfl, hQ s' xs1 cp1 hm cell1 got⟩
/-- list of a reverse iterator over a list -/
theorem call_list_rev {it l : Addr} {items : Array Value} {Q : Value → Shared → Prop} (hh : A.handled = none) (hit : s.heap.IsRevIter it l ((items.size : Int) - 1)) (hl : s.heap.IsList l items) (hne : l ≠ it) (hn : items.size ≤ sizeLine)
    (hQ : ∀ (h' : Heap) (tk : Nat) (acc : Array Value) (c : Nat), (∀ b o, b ≠ it → s.heap.get? b = some o → h'.get? b = some o) → h'.get? s.heap.objs.size = some { cls := .type "list", dict := none, data := .seq acc c, slots := #[] } →
      ItemsOf (fun i v => items[items.size - 1 - i]? = some v) acc items.size → Q (.ref s.heap.objs.size) { s with heap := h', toks := tk }) :
    wpAny (model prog w) A (call (.type "list") [.ref it]) Q E s := by
  have W := (Walks.listRev (prog := prog) (w := w) (A := A.in1.in1) hh it l hne items).toS
  obtain ⟨o1, ho1, _⟩ := id hit
  obtain ⟨o2, ho2, _⟩ := id hl
  refine call_list_revW W (fun i s h => h.2.1.typeIs) ⟨Nat.zero_le _, ?_, hl⟩ (fun b hb => ?_) (by simp) (fun s' xs1 cp1 hm cell1 got => ?_) hn
  · simpa using hit
  · rcases List.mem_cons.mp hb with rfl | hb
    · exact Heap.lt_size ho1
    · rw [List.mem_singleton.mp hb]
      exact Heap.lt_size ho2
  · obtain ⟨hp, g, d, tk, os⟩ := s'
    have e1 : g = s.gens := hm.gens
    have e2 : d = s.drawn := hm.drawn
    have e3 : os = s.os := hm.os
    subst e1 e2 e3
    refine hQ hp tk xs1 cp1 (fun b o hb e => ?_) cell1 got
    refine hm.heap b o (fun inM => ?_) (Heap.get?_push_of_some _ e)
    rcases List.mem_cons.mp inM with e' | inM
    · exact absurd (Heap.lt_size e) (by rw [e']; exact Nat.lt_irrefl _)
    · exact hb (List.mem_singleton.mp inM)
end
section
variable {X : Cx}
def tListRev (K : PySem.W.Frag) (te : TE) : TE := fun σ H Q => te σ H fun v H1 => ∃ (a : Addr) (xs : List V), v = .ref a ∧ SqL K H1 a xs ∧ ∀ q, H1 q = none → Q (.ref q) (upd H1 q (.lst xs.reverse))
/-- list(reversed(x)), x a list: a new list -/
theorem pe_listRev {e : Expr} {te : TE} {p p2 pos pos2 : Pos} (hc : X.calm = true) (hg : Gl X "list") (hm : X.mg "list" = none) (hg2 : Gl X "reversed") (hm2 : X.mg "reversed" = none) (he : PE X e te)
    (hs : starEach [e] X.env = (false, eval e X.env) :: starEach [] X.env := by rfl)
    (hs2 : starEach [.Call (.Name "reversed" p2) [e] [] pos2] X.env = (false, eval (.Call (.Name "reversed" p2) [e] [] pos2) X.env) :: starEach [] X.env := by rfl) :
    PE X (.Call (.Name "list" p) [.Call (.Name "reversed" p2) [e] [] pos2] [] pos) (tListRev X.K te) := by
  refine ⟨fun pins s σ H Q I h => ?_⟩
  refine Call_ (ld_blt I hg hm boot_list (PyProof.Rows.callWith_type1 (args_cons (Call_ (ld_blt I hg2 hm2 PyProof.Rows.boot_reversed (PyProof.Rows.callWith_type1 (args_cons (thn (he.run pins s σ H _ I h) fun u s1 ⟨v, H1, I1, r1, q1⟩ => args_nil ?_) hs) hs rfl))) hs2) hs2 rfl))
  obtain ⟨a, xs, ev, hq, q⟩ := q1
  subst ev
  obtain rfl : u = Value.ref a := r1
  obtain ⟨its, rv, p', hz⟩ := I1.list hq
  refine call_reversed_list p'.isList (args_nil ?_)
  have k0 : ∀ b o, s1.heap.get? b = some o → (s1.heap.push (revObj a ((its.toArray.size : Int) - 1))).get? b = some o := fun b o e => Heap.get?_push_of_some _ e
  have I2 : Inv X pins σ H1 { s1 with heap := s1.heap.push (revObj a ((its.toArray.size : Int) - 1)) } := I1.kept (t' := s1.toks) k0
  obtain ⟨f0, f1, f2, f3, f4, f5⟩ := I1.fpOk (H' := H1) (b := s1.heap.objs.size) (Nat.le_refl _) (I1.hok.fresh (Nat.le_refl _))
  have hl := p'.isList
  obtain ⟨ol, hol, _⟩ := id hl
  have hne : a ≠ s1.heap.objs.size := Nat.ne_of_lt (Heap.lt_size hol)
  have hn : its.toArray.size ≤ sizeLine := by rw [List.size_toArray, ← rv.length]; exact hz
  refine call_list_rev (s := { s1 with heap := s1.heap.push (revObj a ((its.toArray.size : Int) - 1)) }) (I1.ok.hd hc) ⟨_, Heap.get?_push_size _ rfl, rfl, rfl⟩ (hl.push _) hne hn fun h' tk acc c hk cell hi => ?_
  generalize hN : (s1.heap.push (revObj a ((its.toArray.size : Int) - 1))).objs.size = N at cell
  have hlt : s1.heap.objs.size < N := by
    rw [← hN, Heap.size_push]
    exact Nat.lt_succ_self _
  have nN : H1 N = none := I2.hok.fresh (by rw [← hN]; exact Nat.le_refl _)
  have I3 := I2.laid (a := N) (o := .lst xs.reverse) (h' := (s1.heap.push (revObj a ((its.toArray.size : Int) - 1))).push { cls := .type "list", data := .seq acc c }) (t' := tk) (fun b o e => Heap.get?_push_of_some _ e) (by rw [← hN]; exact Nat.le_refl _)
    (show ObjOk X.prog X.w _ _ _ (.lst xs.reverse) from ⟨by rw [List.length_reverse]; exact hz, acc.toList, c, RT.vals_rev rv hi, by
      rw [Array.toArray_toList, ← hN]
      exact Heap.get?_push_size _ rfl⟩)
  have I4 : Inv X pins σ (upd H1 N (.lst xs.reverse)) { s1 with heap := h', toks := tk } := Inv.turned (s := { s1 with heap := (s1.heap.push (revObj a ((its.toArray.size : Int) - 1))).push { cls := .type "list", data := .seq acc c }, toks := tk }) I3 (t' := tk) (it := s1.heap.objs.size) (fun b o hb e => by
    rcases Heap.get?_push_cases (show ((s1.heap.push (revObj a ((its.toArray.size : Int) - 1))).push { cls := .type "list", data := .seq acc c }).get? b = some o from e) with ⟨e1q, e2q⟩ | e1q
    · rw [e1q, e2q, hN]
      exact cell
    · exact hk b o hb e1q) (by rw [upd_ne (Nat.ne_of_lt hlt)]; exact f0) f1 f3 f4 f5
  have fin : EP X pins σ Q (.ref N) { s1 with heap := h', toks := tk } := ⟨.ref N, upd H1 N (.lst xs.reverse), I4, rfl, q N nN⟩
  rw [← hN] at fin ⊢
  exact fin
end
end Dw

namespace Dw
open PySem PySem.Spec PyProof.Rows L2
section
variable {M : Md} {O : List Addr} {r : List Sl} {k : D → Prop} {ta tb te : TE} {tl : TA}
/-! ### slices -/
def cutD (xs : List D) (lo hi : Option Int) : List D := (xs.drop (HT.sIx xs.length 0 lo)).take (HT.sIx xs.length xs.length hi - HT.sIx xs.length 0 lo)
theorem cutD_len (xs : List D) (lo hi : Option Int) : (cutD xs lo hi).length ≤ xs.length := by
  unfold cutD
  rw [List.length_take, List.length_drop]
  omega
def DO (M : Md) (to : TO) (O : List Addr) (r : List Sl) (k : Option Int → Prop) : Prop :=
  ∀ σ H (Q : Option Int → Hp → Prop), Rp M O r σ H → (∀ o H', Rp M O r σ H' → Sm M.F0 H H' → k o → Q o H') → to σ H Q
theorem do_none {k : Option Int → Prop} (h : k none) : DO M tNoPart O r k := fun σ H Q R z => z none H R .refl h
theorem do_some {k : Option Int → Prop} (h : De M te O r fun x => ∃ i, x = .int i ∧ k (some i)) : DO M (tPart te) O r k := fun σ H Q R z => h σ H _ R fun v H1 x R1 e1 p1 q => by
  obtain ⟨i, rfl, q⟩ := q
  exact ⟨i, p1, z _ H1 R1 e1 q⟩
theorem cut_rep {K : PySem.W.Frag} {N : No} {H : Hp} {xs : List D} {vs : List V} (h : RepL K N H xs vs) (lo hi : Option Int) : RepL K N H (cutD xs lo hi) (cutV vs lo hi) := by
  unfold cutD cutV
  rw [← h.length]
  exact (h.drop _).take _
theorem de_slL {lo hi : TO} (h : De M te O r fun x => ∃ xs, x = .lst xs ∧ DO M lo O r fun i => DO M hi O r fun j => k (.lst (cutD xs i j))) : De M (tSl (rSlL M.K) te lo hi) O r k := fun σ H Q R z => h σ H _ R fun v H1 x R1 e1 p1 q => by
  obtain ⟨xs, rfl, q⟩ := q
  refine q σ H1 _ R1 fun i H2 R2 e2 q2 => q2 σ H2 _ R2 fun j H3 R3 e3 q3 => ?_
  obtain ⟨a, vs, rfl, h1, h2⟩ := (p1.step e2).step e3
  exact ⟨a, vs, rfl, h1.sq, fun p hp => z _ _ _ (R3.grow (sm_new hp)) (((e1.trans e2).trans e3).trans (sm_0 (sm_new hp))) (rep_lst R3 hp (cut_rep h2 i j)) q3⟩
/-! ### operators over lists -/
theorem de_ixL (h : De M ta O r fun x => De M tb O r fun y => ∃ xs i d, x = .lst xs ∧ y = .int i ∧ atI xs i = some d ∧ k d) : De M (tOp (rIxL M.K) ta tb) O r k := de_op2 h fun x y c σ H v u Q R pv pu z => by
  obtain ⟨xs, i, d, rfl, rfl, e, q⟩ := c
  obtain ⟨a, vs, rfl, h1, h2⟩ := pv
  obtain ⟨j, e1, e2, _⟩ := atI_get e
  obtain ⟨w, e3, e4⟩ := h2.get e2
  refine ⟨a, vs, i, w, rfl, pu, h1.sq, ?_, z w H d R .refl e4 q⟩
  unfold atI at e ⊢
  rw [← h2.length]
  cases e5 : ixN xs.length i with
  | none =>
    rw [e5] at e
    cases e
  | some m =>
    rw [e5] at e
    have e6 : xs[m]? = some d := e
    obtain ⟨e7, _⟩ := ixN_seq e5
    rw [e1] at e7
    cases e7
    exact e3
theorem de_ixT (h : De M ta O r fun x => De M tb O r fun y => ∃ xs i d, x = .tup xs ∧ y = .int i ∧ atI xs i = some d ∧ k d) : De M (tOp (rIxT M.K) ta tb) O r k := de_op2 h fun x y c σ H v u Q R pv pu z => by
  obtain ⟨xs, i, d, rfl, rfl, e, q⟩ := c
  obtain ⟨a, vs, rfl, h1, h2⟩ := pv
  obtain ⟨j, e1, e2, _⟩ := atI_get e
  obtain ⟨w, e3, e4⟩ := h2.get e2
  refine ⟨a, vs, i, w, rfl, pu, h1.sq, ?_, z w H d R .refl e4 q⟩
  unfold atI at e ⊢
  rw [← h2.length]
  cases e5 : ixN xs.length i with
  | none =>
    rw [e5] at e
    cases e
  | some m =>
    rw [e5] at e
    have e6 : xs[m]? = some d := e
    obtain ⟨e7, _⟩ := ixN_seq e5
    rw [e1] at e7
    cases e7
    exact e3
theorem lat_trk {K : PySem.W.Frag} {N : No} {H : Hp} {a : Addr} {vs : List V} (h : LAt K N H a vs) (n : ¬ SqL K H00 a vs) : Rd H a (.lst vs) := h.elim (fun z => z.2) fun z => (n z).elim
/-! ### built-ins -/
theorem de_len1 {f : List V → Hp → VK → Prop} (hf : ∀ (H : Hp) (a : Addr) (vs : List V) (Q : VK), (SqL M.K H a vs ∨ SqT M.K H a vs) → Q (.int vs.length) H → f [.ref a] H Q) (h : De M te O r fun x => ∃ xs, (x = .lst xs ∨ x = .tup xs) ∧ k (.int xs.length)) :
    De M (tCB f (tCons te tNil)) O r k := fun σ H Q R z => h σ H _ R fun v H1 x R1 e1 p1 q => by
  obtain ⟨xs, c, q⟩ := q
  rcases c with rfl | rfl
  · obtain ⟨a, vs, rfl, h1, h2⟩ := p1
    refine hf H1 a vs Q (.inl h1.sq) ?_
    rw [← h2.length]
    exact z _ H1 (.int xs.length) R1 e1 rfl q
  · obtain ⟨a, vs, rfl, h1, h2⟩ := p1
    refine hf H1 a vs Q (.inr h1.sq) ?_
    rw [← h2.length]
    exact z _ H1 (.int xs.length) R1 e1 rfl q
theorem de_len (h : De M te O r fun x => ∃ xs, (x = .lst xs ∨ x = .tup xs) ∧ k (.int xs.length)) :
    De M (tCB (fun xs H Q => ∃ p ys, xs = [.ref p] ∧ (SqL M.K H p ys ∨ SqT M.K H p ys) ∧ Q (.int ys.length) H) (tCons te tNil)) O r k :=
  de_len1 (fun H a vs Q h q => ⟨a, vs, rfl, h, q⟩) h
theorem de_lenS (h : De M te O r fun x => ∃ s : Str, x = .str s ∧ s.length ≤ sizeLine ∧ k (.int s.length)) :
    De M (tCB (fun xs H Q => ∃ z, xs = [.str z] ∧ z.length ≤ sizeLine ∧ Q (.int z.length) H) (tCons te tNil)) O r k := fun σ H Q R z => h σ H _ R fun v H1 x R1 e1 p1 q => by
  obtain ⟨s, rfl, hs, q⟩ := q
  have e : v = .str s := p1
  subst e
  exact ⟨s, rfl, hs, z _ H1 (.int s.length) R1 e1 rfl q⟩
theorem de_listOf (h : De M te O r fun x => ∃ xs, (x = .lst xs ∨ x = .tup xs) ∧ k (.lst xs)) :
    De M (tCB (fun xs H Q => ∃ p ys, xs = [.ref p] ∧ (SqL M.K H p ys ∨ SqT M.K H p ys) ∧ ∀ l, H l = none → Q (.ref l) (upd H l (.lst ys))) (tCons te tNil)) O r k := fun σ H Q R z => h σ H _ R fun v H1 x R1 e1 p1 q => by
  obtain ⟨xs, c, q⟩ := q
  rcases c with rfl | rfl
  · obtain ⟨a, vs, rfl, h1, h2⟩ := p1
    exact ⟨a, vs, rfl, .inl h1.sq, fun p hp => z _ _ (.lst xs) (R1.grow (sm_new hp)) (e1.trans (sm_0 (sm_new hp))) (rep_lst R1 hp h2) q⟩
  · obtain ⟨a, vs, rfl, h1, h2⟩ := p1
    exact ⟨a, vs, rfl, .inr h1.sq, fun p hp => z _ _ (.lst xs) (R1.grow (sm_new hp)) (e1.trans (sm_0 (sm_new hp))) (rep_lst R1 hp h2) q⟩
theorem de_tupleOf (h : De M te O r fun x => ∃ xs, (x = .lst xs ∨ x = .tup xs) ∧ k (.tup xs)) :
    De M (tCB (fun xs H Q => ∃ p ys, xs = [.ref p] ∧ ((SqL M.K H p ys ∧ ∀ l, H l = none → Q (.ref l) (upd H l (.tup ys))) ∨ (SqT M.K H p ys ∧ Q (.ref p) H))) (tCons te tNil)) O r k := fun σ H Q R z => h σ H _ R fun v H1 x R1 e1 p1 q => by
  obtain ⟨xs, c, q⟩ := q
  rcases c with rfl | rfl
  · obtain ⟨a, vs, rfl, h1, h2⟩ := p1
    exact ⟨a, vs, rfl, .inl ⟨h1.sq, fun p hp => z _ _ (.tup xs) (R1.grow (sm_new hp)) (e1.trans (sm_0 (sm_new hp))) (rep_tup R1 hp h2) q⟩⟩
  · obtain ⟨a, vs, rfl, h1, h2⟩ := p1
    exact ⟨a, vs, rfl, .inr ⟨h1.sq, z _ H1 (.tup xs) R1 e1 ⟨a, vs, rfl, h1, h2⟩ q⟩⟩
theorem de_listRev (h : De M te O r fun x => ∃ xs, x = .lst xs ∧ k (.lst xs.reverse)) : De M (tListRev M.K te) O r k := fun σ H Q R z => h σ H _ R fun v H1 x R1 e1 p1 q => by
  obtain ⟨xs, rfl, q⟩ := q
  obtain ⟨a, vs, rfl, h1, h2⟩ := p1
  exact ⟨a, vs, rfl, h1.sq, fun p hp => z _ _ (.lst xs.reverse) (R1.grow (sm_new hp)) (e1.trans (sm_0 (sm_new hp))) (rep_lst R1 hp h2.reverse) q⟩
theorem de_max2 (h : De M ta O r fun x => De M tb O r fun y => ∃ i j, x = .int i ∧ y = .int j ∧ k (.int (if j > i then j else i))) :
    De M (tCB (fun xs H Q => ∃ i j, xs = [V.int i, V.int j] ∧ Q (.int (if j > i then j else i)) H) (tCons ta (tCons tb tNil))) O r k := fun σ H Q R z => h σ H _ R fun v H1 x R1 e1 p1 q => q σ H1 _ R1 fun u H2 y R2 e2 p2 q2 => by
  obtain ⟨i, j, rfl, rfl, q2⟩ := q2
  have a1 : v = .int i := p1
  have a2 : u = .int j := p2
  subst a1 a2
  exact ⟨i, j, rfl, z _ H2 (.int (if j > i then j else i)) R2 (e1.trans e2) rfl q2⟩
theorem de_any (h : De M te O r fun x => ∃ bs : List Bool, x = .lst (bs.map D.bl) ∧ k (.bl (bs.any id))) : De M (tCB (rAny M.K) (tCons te tNil)) O r k := fun σ H Q R z => h σ H _ R fun v H1 x R1 e1 p1 q => by
  obtain ⟨bs, rfl, q⟩ := q
  obtain ⟨a, vs, rfl, h1, h2⟩ := p1
  rw [repL_bls h2] at h1
  exact ⟨a, bs, rfl, h1.sq, z _ H1 (.bl (bs.any id)) R1 e1 rfl q⟩
theorem de_all (h : De M te O r fun x => ∃ bs : List Bool, x = .lst (bs.map D.bl) ∧ k (.bl (bs.all id))) : De M (tCB (rAll M.K) (tCons te tNil)) O r k := fun σ H Q R z => h σ H _ R fun v H1 x R1 e1 p1 q => by
  obtain ⟨bs, rfl, q⟩ := q
  obtain ⟨a, vs, rfl, h1, h2⟩ := p1
  rw [repL_bls h2] at h1
  exact ⟨a, bs, rfl, h1.sq, z _ H1 (.bl (bs.all id)) R1 e1 rfl q⟩
theorem de_sum (h : De M te O r fun x => ∃ bs : List Int, x = .lst (bs.map D.int) ∧ k (.int bs.sum)) : De M (tCB (rSum M.K) (tCons te tNil)) O r k := fun σ H Q R z => h σ H _ R fun v H1 x R1 e1 p1 q => by
  obtain ⟨bs, rfl, q⟩ := q
  obtain ⟨a, vs, rfl, h1, h2⟩ := p1
  rw [repL_ints h2] at h1
  exact ⟨a, bs, rfl, h1.sq, z _ H1 (.int bs.sum) R1 e1 rfl q⟩
theorem dt_yes {kt : Bool → Prop} (h : kt true) : DT M tYes O r kt := fun σ H Q R z => z true H R .refl h
/-- a statement told over data, then the rest by hand -/
theorem raw_seq {ts tz : TS} {σ : L2.St} {H : Hp} {Z : Ends} (E : List Addr → List Sl → Prop) (R : Rp M O r σ H) (h : DS M ts O r { nx := E, rt := fun _ => False })
    (q : ∀ O1 r1 σ1 H1, Rp M O1 r1 σ1 H1 → Stp M O H O1 H1 → E O1 r1 → tz Z σ1 H1) : tSeq ts tz Z σ H :=
  h σ H _ R ⟨fun O1 r1 σ1 H1 R1 s1 q1 => q O1 r1 σ1 H1 R1 s1 q1, fun _ _ _ _ _ _ z => z.elim, fun _ _ _ _ _ _ z => z.elim, fun _ _ _ _ _ _ z => z.elim⟩
theorem ints_of {P : Int → Prop} : ∀ {ys : List D}, (∀ (i : Nat) y, ys[i]? = some y → ∃ n, y = .int n ∧ P n) → ∃ ms : List Int, ys = ms.map D.int ∧ ∀ m ∈ ms, P m
  | [], _ => ⟨[], rfl, fun _ h => nomatch h⟩
  | y :: ys, h => by
    obtain ⟨n, e, p⟩ := h 0 y rfl
    obtain ⟨ms, e2, p2⟩ := ints_of (ys := ys) fun i y hy => h (i + 1) y hy
    refine ⟨n :: ms, by rw [e, e2]; rfl, fun m hm => ?_⟩
    rcases List.mem_cons.mp hm with rfl | hm
    · exact p
    · exact p2 m hm
end
end Dw

/-! defs that are called where nothing is being shown by repr: FnG; their bodies, their calls, a law's end. -/
namespace Dw
open PySem PySem.Spec PyProof.Rows L2
structure FnG (P : Program) (w : World) (K : PySem.W.Frag) (mg : Str → Option Value) (base : Heap) (k : Nat) (f : Addr) (fd : FuncData) (ps : List Str) (sp : Sp) : Prop where
  len : ∀ vs H Q E, sp vs H Q E → vs.length = ps.length
  run : ∀ (A : Around) (outer : List Env) (s : Shared) (H : Hp) (args : Args) (us : List Value) (vs : List V) (Q : VK) (E : XK),
    A.guards = some [] → Room k A → Env0 P w K mg base A outer s H → BindsTo s fd args (ps.zip us) → Vals vs us → sp vs H Q E → codeAny (model P w) A (.call (.ref f) args) (CR CX0 outer P w H s Q E) s
section
variable {P : Program} {w : World} {K : PySem.W.Frag} {mg : Str → Option Value} {base : Heap}
theorem fng_of {x qual : Str} {st : Stmt} {f : Addr} {fd : FuncData} {N ps : List Str} {k : Nat} {sp : Sp} (F : Fun K x qual st f fd) (T : FnScope N ps (defScope st)) (len : ∀ vs H Q E, sp vs H Q E → vs.length = ps.length)
    (bd : ∀ (cdv : Value) (A : Around) (outer : List Env) (s : Shared) (H : Hp) (vs : List V) (Q : VK) (E : XK), A.guards = some [] → Room k (A.deeper (envOfC qual (defScope st) s.heap.objs.size f cdv)) → sp vs H Q E →
      ∃ t, PSs (cxOf CX0 P w K mg base N qual (defScope st) f cdv A outer s H E).nox (defBody st) t ∧ t { nx := fun _ H' => Q .non H', rt := Q } (L2.start N vs) H) : FnG P w K mg base (k + 1) f fd ps sp := by
  obtain ⟨oc, od, kV, doc, pm, an, cdv, ct, osl, rfl, lk, hcd⟩ := F.ex
  constructor
  · exact len
  · intro A outer s H args us vs Q E hg hr e0 hb r hsp
    have keep : ∀ b o, base.get? b = some o → s.heap.get? b = some o := fun b o e => (e0.bs b o e).1
    have KX := e0.mod.kin.keeps keep
    have lim := e0.mod.nolimit.keeps keep
    have kinds : ∀ y ∈ ps.zip us, (defScope st).names.lookup y.1 = some .local ∨
        ((defScope st).names.lookup y.1 = some .cell ∧ ((cellsFrom (s.heap.objs.size + 1) (defScope st).names []).lookup y.1).isSome = true) := by
      rintro ⟨n, v⟩ hy
      refine (T.par n (List.of_mem_zip hy).1).imp id fun q => ⟨q, ?_⟩
      exact PySem.W.cellsFrom_some _ _ _ (.inl q)
    have hlen := len _ _ _ _ hsp
    refine codeAny_call_function hr.depth (KX _ _ lk) rfl T.co T.gen rfl (PySem.W.codeRec_of KX hcd)
      (hb _ _ _ _ (wpAny_newFunctionEnv_cells T.kind kinds fun env he s1 x => ?_))
    subst he
    obtain ⟨t, ht, hq⟩ := bd cdv A outer s H vs Q E hg (hr.deeper _) hsp
    have I0 := inv_start (CX := CX0) (P := P) (mg := mg) (E := E) T hr.hd e0 hlen r x
    refine ⟨lim.keeps x.toInCall.keep, codeAny_func (wpAny_mono (ht.nox.run [] s1 (L2.start N vs) H _ I0 hq)
      (fun fl s' hs => ?_) (fun e s' hs => hs))⟩
    match fl, hs with
    | .ret u, ⟨v, σ', H', J, rv, q⟩ => exact ⟨v, H', J.os, J.bare, J.base, J.hok, rv, q⟩
    | .next, ⟨σ', H', J, q⟩ => exact ⟨.non, H', J.os, J.bare, J.base, J.hok, rfl, q⟩
    | .brk, ⟨_, _, _, q⟩ => exact q.elim
    | .cont, ⟨_, _, _, q⟩ => exact q.elim
theorem FnOk.g {k : Nat} {f : Addr} {fd : FuncData} {ps : List Str} {sp : Sp} (F : FnOk P w K mg base CX0 k f fd ps sp) : FnG P w K mg base k f fd ps sp :=
  ⟨F.len, fun A outer s H args us vs Q E _ hr => F.run A outer s H args us vs Q E hr⟩
theorem FnG.mono {j k : Nat} {f : Addr} {fd : FuncData} {ps : List Str} {sp : Sp} (F : FnG P w K mg base j f fd ps sp) (h : j ≤ k) : FnG P w K mg base k f fd ps sp :=
  ⟨F.len, fun A outer s H args us vs Q E hg hr => F.run A outer s H args us vs Q E hg (hr.mono h)⟩
end
section
variable {X : Cx} {k : Nat} {f : Addr} {fd : FuncData} {ps : List Str} {sp : Sp} {E : XK} {x : Str} {p pos : Pos} {e : Expr} {es : List Expr} {t : TA}
theorem run_g {pins : List (Addr × Obj)} {σ : L2.St} {H : Hp} {s : Shared} {Q : VK} {us : List Value} {vs : List V} (F : FnG X.prog X.w X.K X.mg X.base k f fd ps sp) (hg : X.A.guards = some []) (hr : Room k X.A) (hb : Binds X.K fd ps [])
    (I : Inv X pins σ H s) (r : Vals vs us) (h : sp vs H Q E) : wpAny (model X.prog X.w) X.A (call (.ref f) us) (EP X pins σ Q) X.xe s := by
  have hl : us.length = ps.length := by rw [← r.length]; exact F.len _ _ _ _ h
  have bb := hb s us I.kIn (by rw [List.append_nil]; exact hl)
  rw [List.append_nil] at bb
  refine wpAny_call (codeAny_mono (F.run X.A X.stack s H ⟨us, []⟩ us vs Q E hg hr I.env0 bb r h) fun r s' hq => ?_)
  match r, hq with
  | .ok (.ret u), hq => exact I.after hq
  | .ok .next, hq => exact False.elim hq
  | .ok .brk, hq => exact False.elim hq
  | .ok .cont, hq => exact False.elim hq
  | .error e, hq => exact False.elim hq
theorem pe_callG (F : FnG X.prog X.w X.K X.mg X.base k f fd ps sp) (gd : X.A.guards = some []) (hr : Room k X.A) (hg : Gl X x) (hm : X.mg x = some (.ref f)) (hk : PySem.W.keepIn X.K (.ref f) = true) (hb : Binds X.K fd ps [])
    (ha : PA X (e :: es) t) (hdb : (x == ("__debug__" : Str)) = false := by decide) (he : starEach (e :: es) X.env = (false, eval e X.env) :: starEach es X.env := by rfl) (hpl : (backTo pos (starEach es X.env)).any (·.1) = false := by rfl) :
    PE X (.Call (.Name x p) (e :: es) [] pos) (tCall sp [] E t) := ⟨fun pins s σ H Q I h =>
  wpAny_Call_Name_kw (ld_glob I hg hm (PySem.W.callWith_K (h₀ := X.base) I.ok.mod.kin hk
    (thn (ha.run pos pins s σ H _ I h) fun us s1 ⟨vs, H1, I1, r, q⟩ => ⟨I1.kIn, run_g F gd hr hb I1 r (show sp vs H1 Q E from by
      have q2 : sp (vs ++ []) H1 Q E := q
      rw [List.append_nil] at q2
      exact q2)⟩) he hpl) hdb)⟩
end
/-- a law's call, from the promise of its def -/
theorem law_g {P : Program} {w : World} {K : PySem.W.Frag} {mg mb : Str → Option Value} {k : Nat} {fa a : Addr} {fd : FuncData} {x : Str} {sp : Sp} {s1 : Shared} {vs : List Value} {ns : List Int}
    (KX : K.In s1.heap) (hns : s1.heap.Ns mainGlobals mg) (hb : s1.heap.Ns builtinsNs mb) (hbb : ∀ x : Str, x ≠ "__name__" → mb x = bootBuiltins x) (hlim : s1.heap.NoLimit) (hg : s1.gens = #[])
    (ha : s1.heap.get? a = some { cls := .type "list", data := .seq vs.toArray }) (hi : IntsAre vs ns) (hl : ns.length ≤ sizeLine) (hr : Room k callerA)
    (F : ∀ base : Heap, K.In base → base.Ns mainGlobals mg → FnG P w K mg base k fa fd [x] sp) (hbind : ∀ (s : Shared) (u : Value), BindsTo s fd ⟨[u], []⟩ [(x, u)])
    (hsp : ∀ H : Hp, Only H → SqL K H a (ns.map V.int) → sp [.ref a] H (fun v _ => v = .bl true) fun _ _ _ => False) :
    codeAny (model P w) callerA (.call (.ref fa) ⟨[.ref a], []⟩) (fun r s' => r = .ok (.ret (.bool true)) ∧ OldK s1.heap s'.heap ∧ s'.os = s1.os ∧ AllBare s'.gens) s1 := by
  -- by the library's own end, for a promise that gives the call back as it is told
  have rv := vals_ints hi
  have main : ∀ H : Hp, Only H → SqL K H a (ns.map V.int) → HOk P w H s1.heap → (∀ b, H b ≠ none → b = a) → (H a ≠ none → K.lookup a = none) →
      codeAny (model P w) callerA (.call (.ref fa) ⟨[.ref a], []⟩) (fun r s' => r = .ok (.ret (.bool true)) ∧ OldK s1.heap s'.heap ∧ s'.os = s1.os ∧ AllBare s'.gens) s1 := by
    intro H hO hS hok hA hK
    have free : ∀ {b : Addr} {o : Obj}, s1.heap.get? b = some o → (∀ its n, o.data ≠ .seq its n) → H b = none := fun {b o} e d => by
      refine Classical.byContradiction fun q => ?_
      have := hA b q
      subst this
      rw [ha] at e
      cases e
      exact d _ _ rfl
    have nsB : ∀ {b : Addr} {m : Str → Option Value}, s1.heap.Ns b m → (hidT s1.heap H).Ns b m := by
      rintro b m ⟨o, es, ep, e, d, r⟩
      exact ⟨o, es, ep, hidT_get e (free e fun its n z => by rw [d] at z; cases z), d, r⟩
    have kB : K.In (hidT s1.heap H) := by
      intro b o e
      refine hidT_get (KX b o e) (Classical.byContradiction fun q => ?_)
      have := hA b q
      subst this
      rw [hK q] at e
      cases e
    obtain ⟨mc, l1, l2⟩ := hlim
    have env : Env0 P w K mg (hidT s1.heap H) callerA [] s1 H := {
      frames := rfl
      mod := ⟨kB, nsB hns, ⟨mb, nsB hb, hbb⟩, ⟨mc, nsB l1, l2⟩⟩
      bs := fun b o e => of_hidT e
      bsz := Nat.le_of_eq (hidT_size _ _)
      funs := trivial
      frf := fun b hb => nomatch (show b ∈ ([] : List Addr) from hb)
      hok := hok
      bare := .of_eq hg }
    have go := (F _ kB (nsB hns)).run callerA [] s1 H ⟨[.ref a], []⟩ [.ref a] [.ref a] _ _ rfl hr env (hbind s1 (.ref a)) (.cons rfl .nil) (hsp H hO hS)
    refine codeAny_mono go fun r s' h => ?_
    match r, h with
    | .error e, h => exact False.elim h
    | .ok .next, h => exact False.elim h
    | .ok .brk, h => exact False.elim h
    | .ok .cont, h => exact False.elim h
    | .ok (.ret u), ⟨v, H', os, bare, un, hok', r', q⟩ =>
      have q' : v = .bl true := q
      subst q'
      obtain rfl : u = Value.bool true := r'
      refine ⟨rfl, OldK.of_keep fun b o e => ?_, os, bare⟩
      cases hb : H b with
      | none => exact un.keep b o e hb (fun z => nomatch (show b ∈ ([] : List Addr) from z)) (fun z => nomatch z)
      | some u =>
        rcases hO b with z | ⟨ob, xs, z⟩
        · rw [hb] at z
          cases z
        · have e1 := (hok b _ z).1
          have e2 := (hok' b _ (un.frzs b ob _ z)).1
          rw [e] at e1
          cases e1
          exact e2
  cases hk : K.lookup a with
  | some o =>
    have e := KX a o hk
    rw [ha] at e
    cases e
    have h0 : SqL K (fun _ => none) a (ns.map V.int) := .inr ⟨_, vs.toArray, _, hk, rfl, rfl, rfl, by
      rw [List.size_toArray, hi.length]
      exact hl, by simpa using rv⟩
    exact main (fun _ => none) (fun _ => .inl rfl) h0 (fun b u z => nomatch (show (none : Option HO) = some u from z)) (fun b z => absurd rfl z) fun z => absurd rfl z
  | none =>
    let H1 : Hp := upd (fun _ => none) a (.frz { cls := .type "list", data := .seq vs.toArray } (.lst (ns.map V.int)))
    have at' : ∀ b, b ≠ a → H1 b = none := fun b hb => upd_ne hb
    refine main H1 (fun b => ?_) (.inl (.inr ⟨_, upd_same⟩)) (fun b u z => ?_) (fun b z => Classical.byContradiction fun q => z (at' b q)) fun _ => hk
    · by_cases hb : b = a
      · rw [hb]
        exact .inr ⟨_, _, upd_same⟩
      · exact .inl (at' b hb)
    · by_cases hb : b = a
      · subst hb
        have z2 : some (HO.frz { cls := .type "list", data := .seq vs.toArray } (.lst (ns.map V.int))) = some u := upd_same.symm.trans z
        cases z2
        exact ⟨ha, by rw [List.length_map]; exact hl, vs, _, rv, ha⟩
      · rw [at' b hb] at z
        cases z
/-- what the head leaves, from the promise of the law's def -/
theorem walk_g {l : PySem.W.OpenLaw} {n k : Nat} {q : Program} {loose : List Str} {XP : (Str → Option Value) → Heap → Prop} {YP : World → Heap → Prop} {d : DefRec} {K : Params → PySem.W.Frag} {sp : World → Sp} {x : Str}
    (hn : l.most = some n) (hn2 : n ≤ sizeLine) (hdf : d.params.defaults = []) (hr : Room k callerA) (hY : ∀ (w : World) (h : Heap), YP w h → (K w.params).In h)
    (F : ∀ (w : World) (mg : Str → Option Value) (fa : Addr) (h : Heap), (K w.params).In h → h.Ns mainGlobals mg → mg d.name = some (.ref fa) →
      ∃ fd : FuncData, (∀ (s : Shared) (u : Value), BindsTo s fd ⟨[u], []⟩ [(x, u)]) ∧ ∀ base : Heap, (K w.params).In base → base.Ns mainGlobals mg → FnG l.prog w (K w.params) mg base k fa fd [x] (sp w))
    (hsp : ∀ (w : World) (H : Hp) (a : Addr) (ns : List Int), ns.length ≤ n → Only H → SqL (K w.params) H a (ns.map V.int) → sp w [.ref a] H (fun v _ => v = .bl true) fun _ _ _ => False) :
    PySem.W.WalkO q loose XP YP l.row.toRowW d [] (fun f vs => PySem.call f vs) := by
  refine Att.attach_callB hn hdf ?_
  intro w s0 s1 mg mb fa o pm cd doc a vs ns G Y ho hd hcd hmg hobj hints hlen _ hg
  have KX := hY w _ Y
  obtain ⟨fd, hb, hF⟩ := F w mg fa _ KX G.T.g hmg
  exact law_g KX G.T.g G.T.b G.T.builtins G.T.nolimit hg hobj hints (Nat.le_trans hlen hn2) hr hF hb fun H hO hS => hsp w H a ns hlen hO hS
end Dw

namespace Dw
open PySem PySem.Spec PyProof.Rows L2
/-! ### data without objects of own classes, as the library's data -/
mutual
def D.py : D → PyData
  | .non => .none
  | .bl b => .bool b
  | .int i => .int i
  | .str s => .str s
  | .ref _ => .none
  | .lst xs => .list (D.pyL xs)
  | .tup xs => .tuple (D.pyL xs)
  | .ins _ _ _ => .none
  | .exc _ _ _ => .none
def D.pyL : List D → List PyData
  | [] => []
  | d :: ds => d.py :: D.pyL ds
end
mutual
/-- of none, bools, ints below 2 ^ 1920, texts, lists and tuples -/
def D.pl : D → Bool
  | .non => true
  | .bl _ => true
  | .int i => decide (i.natAbs.log2 < 1920)
  | .str s => PyData.strOk s
  | .ref _ => false
  | .lst xs => D.plL xs
  | .tup xs => D.plL xs
  | .ins _ _ _ => false
  | .exc _ _ _ => false
def D.plL : List D → Bool
  | [] => true
  | d :: ds => d.pl && D.plL ds
end
mutual
theorem dp_of {K : PySem.W.Frag} {N : No} {H : Hp} : ∀ {d : D} {v : V}, d.pl = true → Rep K N H d v → Dp K H v d.py
  | .non, v, _, h => by
    have e : v = .non := h
    subst e
    exact .non
  | .bl b, v, _, h => by
    have e : v = .bl b := h
    subst e
    exact .bl b
  | .int i, v, _, h => by
    have e : v = .int i := h
    subst e
    exact .int i
  | .str s, v, _, h => by
    have e : v = .str s := h
    subst e
    exact .str s
  | .ref _, _, p, _ => nomatch (show false = true from p)
  | .lst xs, v, p, h => by
    obtain ⟨a, vs, rfl, h1, h2⟩ := h
    exact .lst h1.sq (dpL_of (show D.plL xs = true from p) h2)
  | .tup xs, v, p, h => by
    obtain ⟨a, vs, rfl, h1, h2⟩ := h
    exact .tup h1.sq (dpL_of (show D.plL xs = true from p) h2)
  | .ins _ _ _, _, p, _ => nomatch (show false = true from p)
  | .exc _ _ _, _, p, _ => nomatch (show false = true from p)
theorem dpL_of {K : PySem.W.Frag} {N : No} {H : Hp} : ∀ {ds : List D} {vs : List V}, D.plL ds = true → RepL K N H ds vs → DpAll K H vs (D.pyL ds)
  | [], vs, _, h => by
    have e : vs = [] := h
    subst e
    exact .nil
  | d :: ds, vs, p, h => by
    obtain ⟨v, r, rfl, h1, h2⟩ := h
    have p2 : (d.pl && D.plL ds) = true := p
    rw [Bool.and_eq_true] at p2
    exact .cons (dp_of p2.1 h1) (dpL_of p2.2 h2)
end
mutual
theorem py_show : ∀ d : D, d.pl = true → d.py.showable = true ∧ d.py.canLay0 = true
  | .non, _ => ⟨rfl, rfl⟩
  | .bl _, _ => ⟨rfl, rfl⟩
  | .int _, p => ⟨p, rfl⟩
  | .str _, p => ⟨rfl, p⟩
  | .ref _, p => nomatch (show false = true from p)
  | .lst xs, p => py_showL xs p
  | .tup xs, p => py_showL xs p
  | .ins _ _ _, p => nomatch (show false = true from p)
  | .exc _ _ _, p => nomatch (show false = true from p)
theorem py_showL : ∀ ds : List D, D.plL ds = true → PyData.showableAll (D.pyL ds) = true ∧ PyData.canLayAll0 (D.pyL ds) = true
  | [], _ => ⟨rfl, rfl⟩
  | d :: ds, p => by
    have p2 : (d.pl && D.plL ds) = true := p
    rw [Bool.and_eq_true] at p2
    have h1 := py_show d p2.1
    have h2 := py_showL ds p2.2
    exact ⟨by show (d.py.showable && PyData.showableAll (D.pyL ds)) = true; rw [h1.1, h2.1]; rfl, by show (d.py.canLay0 && PyData.canLayAll0 (D.pyL ds)) = true; rw [h1.2, h2.2]; rfl⟩
end
/-- what repr gives -/
def D.shown (d : D) : Str := d.py.shown
section
variable {X : Cx}
def rReprD (K : PySem.W.Frag) : List V → Hp → VK → Prop := fun xs H Q => ∃ (x : V) (d : PyData), xs = [x] ∧ Dp K H x d ∧ d.showable = true ∧ d.hasDict = false ∧ d.depth ≤ 60 ∧ d.shown.length ≤ sizeLine ∧ Q (.str d.shown) H
theorem call_reprD (hg : X.A.guards = some []) (hu : X.A.units + 64 < cLine) : CallR X (.builtin "repr") (rReprD X.K) := by
  intro pins s σ H xs us Q I r h
  obtain ⟨x, d, rfl, hd, hs, hdd, hdp, hz, q⟩ := h
  obtain ⟨u, rfl, ru⟩ := vals1 r
  obtain ⟨as, rd⟩ := Dp.reads I d x u hd ru
  cases d with
  | none =>
    cases rd
    exact PySem.P.repr_of_none ⟨.str "None", H, I.tok _, ⟨_, rfl⟩, q⟩
  | bool b =>
    cases rd
    exact PySem.P.repr_of_bool ⟨.str (if b then "True" else "False"), H, I.tok _, ⟨_, rfl⟩, q⟩
  | int i =>
    cases rd
    exact PySem.P.repr_of_int (of_decide_eq_true hs) ⟨.str (toString i), H, I.tok _, ⟨_, rfl⟩, q⟩
  | str z =>
    cases rd
    exact PySem.P.repr_of_str ⟨.str (reprText z), H, I.tok _, ⟨_, rfl⟩, q⟩ hz
  | list ds =>
    cases hd with
    | lst h1 h2 =>
      cases ru
      refine repr_of_reads' rd hs (PyData.noDict_hsm hdd) hg (by omega) (fun _ _ e => e) (fun h' u tk hk => ?_) hz
      exact ⟨.str _, H, I.kept (h' := h') (t' := tk) hk, ⟨_, rfl⟩, q⟩
  | tuple ds =>
    cases hd with
    | tup h1 h2 =>
      cases ru
      refine repr_of_reads' rd hs (PyData.noDict_hsm hdd) hg (by omega) (fun _ _ e => e) (fun h' u tk hk => ?_) hz
      exact ⟨.str _, H, I.kept (h' := h') (t' := tk) hk, ⟨_, rfl⟩, q⟩
  | dict kvs => cases hd
end
/-- shown within B signs, at most n deep -/
def D.ok (n B : Nat) (d : D) : Prop := d.pl = true ∧ d.py.depth ≤ n ∧ d.shown.length ≤ B
theorem ok_non : D.ok 0 4 .non := ⟨rfl, Nat.zero_le _, by decide⟩
theorem ok_bl {b : Bool} : D.ok 0 5 (.bl b) := ⟨rfl, Nat.zero_le _, by cases b <;> decide⟩
theorem depthAll_le {n : Nat} : ∀ {xs : List D}, (∀ x ∈ xs, x.py.depth ≤ n) → PyData.depthAll (D.pyL xs) ≤ n
  | [], _ => Nat.zero_le _
  | x :: xs, h => by
    show max x.py.depth (PyData.depthAll (D.pyL xs)) ≤ n
    exact Nat.max_le.mpr ⟨h x (by simp), depthAll_le fun y hy => h y (by simp [hy])⟩
theorem plL_of : ∀ {xs : List D}, (∀ x ∈ xs, x.pl = true) → D.plL xs = true
  | [], _ => rfl
  | x :: xs, h => by
    show (x.pl && D.plL xs) = true
    rw [h x (by simp), plL_of fun y hy => h y (by simp [hy])]
    rfl
theorem shownAll_len {B : Nat} : ∀ {xs : List D}, (∀ x ∈ xs, x.shown.length ≤ B) → ((PyData.shownAll (D.pyL xs)).map (·.length)).sum ≤ xs.length * B ∧ (PyData.shownAll (D.pyL xs)).length = xs.length
  | [], _ => ⟨Nat.zero_le _, rfl⟩
  | x :: xs, h => by
    have h1 := h x (by simp)
    have h2 := shownAll_len (xs := xs) fun y hy => h y (by simp [hy])
    constructor
    · show ((x.py.shown :: PyData.shownAll (D.pyL xs)).map (·.length)).sum ≤ _
      rw [List.map_cons, List.sum_cons, List.length_cons, Nat.add_mul, Nat.one_mul]
      have h3 : x.py.shown.length ≤ B := h1
      omega
    · show (x.py.shown :: PyData.shownAll (D.pyL xs)).length = _
      rw [List.length_cons, h2.2, List.length_cons]
theorem ok_lst {n B L : Nat} {xs : List D} (h : ∀ x ∈ xs, D.ok n B x) (hl : xs.length ≤ L) : D.ok (n + 1) (L * (B + 2) + 3) (.lst xs) := by
  refine ⟨plL_of fun x hx => (h x hx).1, Nat.succ_le_succ (depthAll_le fun x hx => (h x hx).2.1), ?_⟩
  obtain ⟨h1, h2⟩ := shownAll_len (xs := xs) fun x hx => (h x hx).2.2
  have h3 := listText_len_le (PyData.shownAll (D.pyL xs))
  show (listText (PyData.shownAll (D.pyL xs))).length ≤ _
  have h4 : xs.length * B + 2 * xs.length = xs.length * (B + 2) := by rw [Nat.mul_add, Nat.mul_comm 2]
  have h5 : xs.length * (B + 2) ≤ L * (B + 2) := Nat.mul_le_mul_right _ hl
  omega
section
variable {X : Cx} {M : Md} {O : List Addr} {r : List Sl} {k : D → Prop} {ta tb te : TE}
theorem de_repr (h : De M te O r fun x => ∃ n B, D.ok n B x ∧ n ≤ 60 ∧ B ≤ sizeLine ∧ k (.str x.shown)) : De M (tCB (rReprD M.K) (tCons te tNil)) O r k := fun σ H Q R z => h σ H _ R fun v H1 x R1 e1 p1 q => by
  obtain ⟨n, B, hk, hn, hB, q⟩ := q
  have hs := py_show x hk.1
  exact ⟨v, x.py, rfl, dp_of hk.1 p1, hs.1, PyData.hasDict_of_canLay _ hs.2, Nat.le_trans hk.2.1 hn, Nat.le_trans hk.2.2 hB, z _ H1 (.str x.shown) R1 e1 rfl q⟩
theorem de_eqD (h : De M ta O r fun x => De M tb O r fun y => (x.pl = true ∧ x.py.depth ≤ 64) ∧ (y.pl = true ∧ y.py.depth ≤ 64) ∧ k (.bl (PyData.eqv x.py y.py))) : De M (tOp (rEqD M.K) ta tb) O r k := de_op2 h fun x y c σ H v u Q R pv pu z => by
  obtain ⟨⟨p1, d1⟩, ⟨p2, d2⟩, q⟩ := c
  have s1 := py_show x p1
  have s2 := py_show y p2
  refine ⟨x.py, y.py, dp_of p1 pv, dp_of p2 pu, ?_, ?_, z _ H (.bl _) R .refl rfl q⟩
  · unfold SeqAt.shaped
    rw [s1.2, decide_eq_true d1]
    rfl
  · unfold SeqAt.shaped
    rw [s2.2, decide_eq_true d2]
    rfl
theorem de_neD (h : De M ta O r fun x => De M tb O r fun y => (x.pl = true ∧ x.py.depth ≤ 64) ∧ (y.pl = true ∧ y.py.depth ≤ 64) ∧ k (.bl (!PyData.eqv x.py y.py))) : De M (tOp (rNeD M.K) ta tb) O r k := de_op2 h fun x y c σ H v u Q R pv pu z => by
  obtain ⟨⟨p1, d1⟩, ⟨p2, d2⟩, q⟩ := c
  have s1 := py_show x p1
  have s2 := py_show y p2
  refine ⟨x.py, y.py, dp_of p1 pv, dp_of p2 pu, ?_, ?_, z _ H (.bl _) R .refl rfl q⟩
  · unfold SeqAt.shaped
    rw [s1.2, decide_eq_true d1]
    rfl
  · unfold SeqAt.shaped
    rw [s2.2, decide_eq_true d2]
    rfl
/-- xs + ys, lists of any kind -/
def rCatA (K : PySem.W.Frag) : R2 := fun x y H Q => ∃ l b xs zs, x = .ref l ∧ y = .ref b ∧ SqL K H l xs ∧ SqL K H b zs ∧ xs.length + zs.length ≤ sizeLine ∧ ∀ p, H p = none → Q (.ref p) (upd H p (.lst (xs ++ zs)))
theorem op_catA : OpR X (binaryOp .Add) (rCatA X.K) := by
  intro pins s σ H x y v u Q I rx ry h
  obtain ⟨l, b, xs, zs, rfl, rfl, hH, hB, hz, q⟩ := h
  cases rx
  cases ry
  obtain ⟨its, r1, p1, z1⟩ := I.list hH
  obtain ⟨its2, r2, p2, z2⟩ := I.list hB
  obtain ⟨o1, n1, e1, c1, d1, q1⟩ := p1
  obtain ⟨o2, n2, e2, c2, d2, q2⟩ := p2
  obtain ⟨cls, dd, data, sl⟩ := o1
  obtain ⟨cls2, dd2, data2, sl2⟩ := o2
  simp only at c1 q1 c2 q2
  subst c1 q1 c2 q2
  have l1 := r1.length
  have l2 := r2.length
  have hs : its.toArray.size + its2.toArray.size ≤ sizeLine := by rw [List.size_toArray, List.size_toArray]; omega
  refine concat_meets ⟨_, e1, rfl⟩ ⟨_, e2, rfl⟩ noFill_list_add seq_list_add PySem.F.slot_list_add PySem.F.entry_list_add (PySem.F.args_list_add_2 _ _)
    (list_addW l b its.toArray its2.toArray n1 n2 dd dd2 sl sl2 hs) ⟨e1, e2, ?_⟩
  have ea : its.toArray ++ its2.toArray = (its ++ its2).toArray := by simp
  rw [ea]
  exact ⟨.ref _, _, I.lnew (t' := s.toks) (r1.append r2) (by rw [List.length_append]; omega), rfl, q _ I.fresh⟩
theorem de_catA (h : De M ta O r fun x => De M tb O r fun y => ∃ xs ys, x = .lst xs ∧ y = .lst ys ∧ xs.length + ys.length ≤ sizeLine ∧ k (.lst (xs ++ ys))) : De M (tOp (rCatA M.K) ta tb) O r k := de_op2 h fun x y c σ H v u Q R pv pu z => by
  obtain ⟨xs, ys, rfl, rfl, hz, q⟩ := c
  obtain ⟨a, vs, rfl, h1, h2⟩ := pv
  obtain ⟨b, ws, rfl, h3, h4⟩ := pu
  exact ⟨a, b, vs, ws, rfl, rfl, h1.sq, h3.sq, by rw [← h2.length, ← h4.length]; exact hz, fun p hp => z _ _ _ (R.grow (sm_new hp)) (sm_0 (sm_new hp)) (rep_lst R hp (h2.append h4)) q⟩
end
end Dw

/-! Dw7: enumerate over a list; how long a tuple is shown. -/
namespace Dw
open PySem PySem.Spec PyProof.Rows L2
theorem ok_tup {n B L : Nat} {xs : List D} (h : ∀ x ∈ xs, D.ok n B x) (hl : xs.length ≤ L) : D.ok (n + 1) (L * (B + 2) + 3) (.tup xs) := by
  obtain ⟨h1, h2⟩ := shownAll_len (xs := xs) fun x hx => (h x hx).2.2
  have h3 := tupleText_len_le (PyData.shownAll (D.pyL xs))
  have h4 : xs.length * B + 2 * xs.length = xs.length * (B + 2) := by rw [Nat.mul_add, Nat.mul_comm 2]
  have h5 : xs.length * (B + 2) ≤ L * (B + 2) := Nat.mul_le_mul_right _ hl
  exact ⟨plL_of fun x hx => (h x hx).1, Nat.succ_le_succ (depthAll_le fun x hx => (h x hx).2.1), by
    show (tupleText (PyData.shownAll (D.pyL xs))).length ≤ _
    omega⟩
theorem D.ok.mono {n m B C : Nat} {d : D} (h : D.ok n B d) (hn : n ≤ m) (hb : B ≤ C) : D.ok m C d := ⟨h.1, Nat.le_trans h.2.1 hn, Nat.le_trans h.2.2 hb⟩
/-- the pairs of enumerate -/
def enumD (xs : List D) : List D := (List.range xs.length).zipWith (fun (i : Nat) x => D.tup [.int (i : Int), x]) xs
theorem enumD_len (xs : List D) : (enumD xs).length = xs.length := by
  unfold enumD
  rw [List.length_zipWith, List.length_range, Nat.min_self]
theorem enumD_get {xs : List D} {i : Nat} {d : D} (h : (enumD xs)[i]? = some d) : ∃ x, xs[i]? = some x ∧ d = .tup [.int (i : Int), x] := by
  have hi : i < xs.length := by
    have := (List.getElem?_eq_some_iff.mp h).1
    rw [enumD_len] at this
    exact this
  unfold enumD at h
  rw [List.getElem?_zipWith, List.getElem?_range hi, List.getElem?_eq_getElem hi] at h
  exact ⟨xs[i], List.getElem?_eq_getElem hi, (Option.some.inj h).symm⟩
def wk_enum (K : PySem.W.Frag) (a : Addr) (xs : List D) : Wk K (Ite K a) (enumD xs) where
  G := fun N H => ∃ vs, LAt K N H a vs ∧ RepL K N H xs vs
  mono := fun N H H' e ⟨vs, h1, h2⟩ => ⟨vs, h1.mono e, h2.mono e⟩
  gen := fun N N' H e ⟨vs, h1, h2⟩ => ⟨vs, h1.gen e, h2.gen e⟩
  go := fun N H i ⟨vs, h1, h2⟩ hi => by
    rw [enumD_len] at hi
    exact ⟨vs, vs[i]'(by rw [← h2.length]; exact hi), h1.sq, List.getElem?_eq_getElem _⟩
  yld := fun N H i x H' d hN ⟨vs, h1, h2⟩ y hd => by
    obtain ⟨T, v, rfl, nT, rfl, y⟩ := y
    obtain ⟨e, q1, rfl⟩ := enumD_get hd
    obtain ⟨w, q2, q3⟩ := h2.get q1
    have := y vs h1.sq
    rw [q2] at this
    cases this
    refine ⟨sm_new nT, T, _, rfl, .inl ⟨fun z => hN T z nT, .inl upd_same⟩, .cons rfl (.one (q3.mono (sm_0 (sm_new nT))))⟩
  stop := fun N H i ⟨vs, h1, h2⟩ hi => by
    rw [enumD_len] at hi
    exact ⟨vs, h1.sq, by rw [← h2.length]; exact hi⟩
section
variable {M : Md} {O : List Addr} {r : List Sl} {k : List D → Prop} {ta : TA}
theorem di_enum (h : DA M ta O r fun ds => ∃ xs, ds = [.lst xs] ∧ k (enumD xs)) : DI M (iEnum M.K ta) O r k := fun σ H Q R z => h σ H _ R fun vs H1 ds R1 e1 p1 q => by
  obtain ⟨xs, rfl, q⟩ := q
  obtain ⟨v, t, rfl, ⟨a, ws, rfl, h1, h2⟩, p3⟩ := p1
  obtain rfl : t = [] := p3
  exact ⟨a, ws, rfl, h1.sq, z _ H1 _ (wk_enum M.K a xs) R1 e1 ⟨ws, h1, h2⟩ q⟩
end
end Dw

namespace Dw
open PySem PySem.Spec PyProof.Rows L2
/-! the source of draws: a dict with a seed, a number and a list of numbers -/
def dealKv (seed number : Int) (ll : Addr) : List (Key × V) := [(.inr "seed", .int seed), (.inr "number", .int number), (.inr "left", .ref ll)]
def DealAt (g : Addr × Addr) (H : Hp) : Prop := ∃ (seed number : Int) (left : List Int), H g.1 = some (.dK (dealKv seed number g.2)) ∧ H g.2 = some (.lst (left.map V.int)) ∧ 0 ≤ seed ∧ seed < 2147483647 ∧ 0 ≤ number ∧ ∀ x ∈ left, 0 ≤ x
def dealS : Sg where
  G := Addr × Addr
  F0 := fun g a => a = g.1 ∨ a = g.2
  I := DealAt
  st := fun g H H' ⟨s, n, l, h1, h2, r⟩ e => ⟨s, n, l, e _ _ (.inl rfl) h1, e _ _ (.inr rfl) h2, r⟩
  tk := fun g H a ⟨s, n, l, h1, h2, r⟩ h => by
    rcases h with rfl | rfl
    · rw [h1]
      exact fun z => nomatch z
    · rw [h2]
      exact fun z => nomatch z
/-- the promise of the def that makes it -/
def spDeal (K : PySem.W.Frag) : Sp := fun vs H Q _ => ∃ (a : Addr) (ns : List Int) (b : Int), vs = [.ref a, .int b] ∧ SqL K H a (ns.map V.int) ∧ ns.length ≤ 63 ∧ 0 ≤ b ∧ b ≤ 63 ∧
  ∀ (g : Addr × Addr) (H' : Hp), H g.1 = none → H g.2 = none → Same H H' → DealAt g H' → Q (.ref g.1) H'
/-- a draw below n -/
def preDraw (g : Addr × Addr) (ds : List D) : Prop := ∃ n : Int, ds = [.ref g.1, .int n] ∧ 0 < n ∧ n < 1073741824
def postDraw (_ : Addr × Addr) (ds : List D) (d : D) : Prop := ∃ n m : Int, ds[1]? = some (.int n) ∧ d = .int m ∧ 0 ≤ m ∧ m < n
abbrev spDraw (K : PySem.W.Frag) : Sp := SpD K dealS preDraw postDraw
theorem lat_of {K : PySem.W.Frag} {H : Hp} {a : Addr} {vs : List V} (h : SqL K H a vs) : LAt K (fun _ => False) H a vs := h.imp (fun z => ⟨fun q => q, z⟩) fun z => .inr z
theorem same_sm {H H' : Hp} (e : Sm (fun _ => False) H H') : Same H H' := fun a o h => e a o (fun z => z) h
theorem valV_seed {s n : Int} {l : Addr} : valV (dealKv s n l) (.inr "seed") = some (.int s) := rfl
theorem valV_number {s n : Int} {l : Addr} : valV (dealKv s n l) (.inr "number") = some (.int n) := rfl
theorem valV_left {s n : Int} {l : Addr} : valV (dealKv s n l) (.inr "left") = some (.ref l) := rfl
theorem putK_seed {s n x : Int} {l : Addr} : putK (dealKv s n l) (.inr "seed") (.int x) = dealKv x n l := rfl
theorem putK_number {s n x : Int} {l : Addr} : putK (dealKv s n l) (.inr "number") (.int x) = dealKv s x l := rfl
end Dw

/-! DwDraw: a draw by a number that is written, within a def that has the source as its own; tuple of a list. -/
namespace Dw
open PySem PySem.Spec PyProof.Rows L2
section
variable {M : Md} {O : List Addr} {r : List Sl} {k : D → Prop} {te : TE}
theorem de_draw {g : Addr × Addr} {i : Nat} {n : Int} {E : XK} (h0 : M.F0 = dealS.F0 g) (hI : M.I = dealS.I g) (hr : r[i]? = some (.d (.ref g.1))) (n0 : 0 < n) (n1 : n < 1073741824) (h : ∀ m : Int, 0 ≤ m → m < n → k (.int m)) :
    De M (tCall (spDraw M.K) [] E (tCons (tVar i) (tCons (tC (.int n)) tNil))) O r k :=
  de_call g h0 hI (da_cons (de_var hr (da_cons (de_int (da_nil ⟨⟨n, rfl, n0, n1⟩, fun d ⟨a, m, ea, ed, m0, m1⟩ => by
    cases ea
    subst ed
    exact h m m0 m1⟩)))))
theorem de_thenTup (h : De M te O r fun x => ∃ xs, x = .lst xs ∧ k (.tup xs)) : De M (tThen te (kTup M.K)) O r k := fun σ H Q R z => h σ H _ R fun v H1 x R1 e1 p1 q => by
  obtain ⟨xs, rfl, q⟩ := q
  obtain ⟨a, vs, rfl, h1, h2⟩ := p1
  exact .inl ⟨a, vs, rfl, h1.sq, fun p hp => z _ _ (.tup xs) (R1.grow (sm_new hp)) (e1.trans (sm_0 (sm_new hp))) (rep_tup R1 hp h2) q⟩
/-- an if without an else, told once -/
theorem ds_ifN {tt : TT} {ts : TS} {E : Kn} (h : DT M tt O r fun b => b = true → DS M ts O r E) (n : E.nx O r) : DS M (tIfS tt ts tNext) O r E := ds_if (h.imp fun b hb => by
  cases b with
  | true => exact hb rfl
  | false => exact ds_next n)
theorem dt_andN {tt tu : TT} {C : Prop} (h : DT M tt O r fun b => b = true → DT M tu O r fun b => b = true → C) : DT M (tAnd tt tu) O r fun b => b = true → C := dt_and (h.imp fun b hb => by
  cases b with
  | true => exact hb rfl
  | false => exact fun z => nomatch z)
end
end Dw

/-! DwExcA: own exceptions with fields, over any builtin base, made as values by position or by name; their fields; isinstance. -/
namespace Dw
open PySem Builtin Builtin.ObjectAttr
/-- a class of the program that hangs on the builtin exception B -/
structure EcO (C : Addr) (B newId : String) (o : Obj) (bm : List Value) : Prop where
  at_ : ∃ nm q N bs sn sub ab col dd k0 k1 k2 k3 k5, o = excClassObj nm q C N bs bm true sn sub ab col dd k0 k1 k2 k3 k5 newId
  hB : bm.contains (.type B) = true
  hA : bm.contains (.type "AttributeError") = false
  hN : bm.contains (.type "NameError") = false
  ho : bm.contains (.type "object") = true
section
variable {prog : Program} {w : World} {A : Around} {E : Value → Shared → Prop} {R : Result → Shared → Prop} {h : Heap} {g : Array GenState} {d : Drawn} {t : Nat} {os : OsState}
variable {nm q : Str} {C N : Addr} {bs bm bmB : List Value} {hdct : Bool} {sn : List Str} {sub : List Value} {ab : Bool} {col : Option Bool} {dd : Option Addr} {k0 k1 k2 k3 k5 : Option Value} {B newId initId : String} {rest : List Value} {kw : List (Str × Value)}
theorem ec_look {o : Obj} {bm : List Value} {C : Addr} {B newId : String} (T : EcO C B newId o bm) (v : Value) (b : Bool) (e : bm.contains v = b) (z : (Value.ref C == v) = false) : (Value.ref C :: bm).contains v = b := by
  rw [List.contains_cons]
  have y : (v == Value.ref C) = false := by
    rw [Bool.eq_false_iff] at z ⊢
    intro x
    exact z (beq_iff_eq.mpr (beq_iff_eq.mp x).symm)
  rw [y, e]
  rfl
theorem ec_new (F : ExcBaseFacts B newId initId bmB) {o : Obj} (T : EcO C B newId o bm) (hC : h.get? C = some o) (hl : rest.length ≤ sizeLine)
    (hq : R (.ok (.ret (.ref (h.objs.size + 1)))) ⟨(h.push (W.kdv_tup rest)).push (HandSPX.excO C h.objs.size), g, d, t, os⟩) :
    codeAny (model prog w) A (.call (.builtin newId) ⟨.ref C :: rest, kw⟩) R ⟨h, g, d, t, os⟩ := by
  have cB := ec_look T _ _ T.hB rfl
  have cA := ec_look T _ _ T.hA rfl
  have cN := ec_look T _ _ T.hN rfl
  obtain ⟨nm, q, N, bs, sn, sub, ab, col, dd, k0, k1, k2, k3, k5, rfl⟩ := T.at_
  have hends := F.ends
  have hstar := F.noStar
  refine codeAny_call_builtin_code (Code.quiet_builtin _ F.quiet) ?_
  simp only [checkBuiltinCall, F.newKind, F.newSplit, F.newRow]
  repeat (first | refine wpAny_loadPart_at hC ?_ | (refine wpAny_isSubtype_exc hC ?_; rw [cB]) | refine wpAny_staticBase_exc hC ?_ | refine wpAny_madeBy_exc hC ?_ | simp only [bne_self_eq_false, Bool.false_eq_true, if_false] | wp_step)
  refine codeAny_builtinAt F.entry ?_
  unfold Builtin.«BaseException.__new__»
  refine wpAt_bind ?_
  show wpAt _ _ _ (stack >>= _) _ _ _
  refine wpAt_bind (wpAt_stack fun p below => wpAt_of_wpAny ?_)
  wp_walk
  refine wpAt_of_wpAny ?_
  rw [F.owner]
  repeat (first | with_reducible refine wpAny_madeHere_exc F.canon hC ?_ | with_reducible refine wpAny_loadPart_at hC ?_ | (with_reducible refine wpAny_isSubtype_exc hC ?_; first | rw [cB] | rw [cA] | rw [cN]) | wp_step)
  show R _ _
  rw [Heap.size_push]
  exact hq
theorem ec_call (F : ExcBaseFacts B newId initId bmB) {o : Obj} {fI : Addr} (T : EcO C B newId o bm) (hC : h.get? C = some o) (hl : rest.length ≤ sizeLine)
    (hi : W.Looks (model prog w) h (typeLookup (.ref C) "__init__") (some (.ref fI))) (hb : ∀ self, W.Looks (model prog w) h (bindSpecial (.ref fI) self) (.ref fI, [self]))
    (hq : codeAny (model prog w) (A.under (.builtin "type.__call__" ⟨.ref C :: rest, kw⟩)) (.call (.ref fI) ⟨.ref (h.objs.size + 1) :: rest, kw⟩) (W.InitBack (h.objs.size + 1) R) ⟨(h.push (W.kdv_tup rest)).push (HandSPX.excO C h.objs.size), g, d, t, os⟩) :
    codeAny (model prog w) A (.call (.ref C) ⟨rest, kw⟩) R ⟨h, g, d, t, os⟩ := by
  have T' := T
  obtain ⟨nm, q, N, bs, sn, sub, ab, col, dd, k0, k1, k2, k3, k5, rfl⟩ := T'.at_
  have f1 := tc_lookup
  have f2 := tc_bind (.ref C)
  have f3 := tc_sub
  have kT : (⟨h, g, d, t, os⟩ : Shared).TypeIs (.ref C) "type" := ⟨_, hC, rfl⟩
  refine codeAny_of_tree ?_
  show wpAny _ _ (callAny (.ref C) _) _ _ _
  repeat (any_goals (first | assumption | with_reducible refine wpAny_loadPart_at hC ?_ | wp_step))
  refine ⟨rfl, codeAny_call_builtin_at (Code.quiet_builtin _ (by decide +kernel)) entry_typeCall ?_⟩
  simp only [checkBuiltinCall, tc_kind, tc_split]
  repeat (first | assumption | with_reducible refine wpAny_loadPart_at hC ?_ | with_reducible refine wpAny_onRaise ?_ | with_reducible refine wpAny_map ?_ | wp_step)
  refine ec_new F T hC hl ?_
  show wpAny _ _ _ _ _ _
  have k : ∀ b o, h.get? b = some o → ((h.push (W.kdv_tup rest)).push (HandSPX.excO C h.objs.size)).get? b = some o := fun b o e => Heap.get?_push_of_some _ (Heap.get?_push_of_some _ e)
  have made : ((h.push (W.kdv_tup rest)).push (HandSPX.excO C h.objs.size)).get? (h.objs.size + 1) = some (HandSPX.excO C h.objs.size) := by heap_get
  have cl := k _ _ hC
  have own : (Value.ref C :: bm).contains (.ref C) = true := by simp
  have i1 := hi.keeps k
  have b1 := (hb (.ref (h.objs.size + 1))).keeps k
  unfold isInstance
  repeat (first | with_reducible refine wpAny_loadPart_at made ?_ | wp_step)
  show wpAny _ _ (isSubtype (.ref C) (.ref C)) _ _ _
  refine wpAny_isSubtype_exc cl ?_
  rw [own]
  repeat (first | with_reducible refine wpAny_loadPart_at made ?_ | wp_step)
  show wpAny _ _ (typeLookup (.ref C) _) _ _ _
  refine i1.at (wpAny_holding (wpAny_bind (b1.at (wpAny_bind (wpAny_call (codeAny_mono hq fun r s' z => ?_))))))
  rcases r with e | (v | _ | _ | _) <;> first | exact z | exact z.elim | skip
  obtain ⟨rfl, z⟩ := z
  first
    | exact wpAny_pure (wpAny_pure z)
    | (wp_walk; exact z)
end
end Dw

/-! DwExcB: a field stored in an exception of the program, whatever its builtin base. -/
namespace Dw
open PySem Builtin Builtin.ObjectAttr
/-- own classes, then the tail -/
def refsTo (tl : List Value) : List Value → Bool
  | .ref _ :: r => refsTo tl r
  | l => l == tl
theorem refsTo_at {tl : List Value} : ∀ l : List Value, refsTo tl l = true → ∃ rs : List Addr, l = rs.map Value.ref ++ tl
  | [], e => ⟨[], beq_iff_eq.mp e⟩
  | .ref c :: r, e => by
    obtain ⟨rs, h⟩ := refsTo_at r e
    exact ⟨c :: rs, by rw [h]; rfl⟩
  | .none :: _, e => ⟨[], beq_iff_eq.mp e⟩
  | .ellipsis :: _, e => ⟨[], beq_iff_eq.mp e⟩
  | .notImplemented :: _, e => ⟨[], beq_iff_eq.mp e⟩
  | .bool _ :: _, e => ⟨[], beq_iff_eq.mp e⟩
  | .int _ _ :: _, e => ⟨[], beq_iff_eq.mp e⟩
  | .float _ _ :: _, e => ⟨[], beq_iff_eq.mp e⟩
  | .str _ _ :: _, e => ⟨[], beq_iff_eq.mp e⟩
  | .bytes _ _ :: _, e => ⟨[], beq_iff_eq.mp e⟩
  | .type _ :: _, e => ⟨[], beq_iff_eq.mp e⟩
  | .builtin _ :: _, e => ⟨[], beq_iff_eq.mp e⟩
/-- a class whose mro lets a field be stored -/
structure StoreOk (mro : List Value) : Prop where
  ne : mro.isEmpty = false
  ob : mro.contains (.type "object") = true
  ps : ∀ self, refuseLoop self "__setattr__" mro = pure ()
theorem StoreOk.refs {tl : List Value} (T : StoreOk tl) : ∀ rs : List Addr, StoreOk (rs.map Value.ref ++ tl)
  | [] => T
  | c :: rs => by
    have ih := StoreOk.refs T rs
    refine ⟨rfl, ?_, fun self => ?_⟩
    · show (Value.ref c :: (rs.map Value.ref ++ tl)).contains _ = true
      rw [List.contains_cons, ih.ob, Bool.or_true]
    · show refuseLoop self "__setattr__" (Value.ref c :: (rs.map Value.ref ++ tl)) = _
      rw [refuseLoop_ref]
      exact ih.ps self
abbrev tlV : List Value := [.type "ValueError", .type "Exception", .type "BaseException", .type "object"]
abbrev tlK : List Value := [.type "KeyError", .type "LookupError", .type "Exception", .type "BaseException", .type "object"]
theorem store_V : StoreOk tlV := ⟨rfl, by decide +kernel, fun self => F.store_ValueError.passes self⟩
theorem store_K : StoreOk tlK := ⟨rfl, by decide +kernel, fun self => by kernel_rfl⟩
theorem store_of {tl l : List Value} (T : StoreOk tl) (h : refsTo tl l = true) : StoreOk l := by
  obtain ⟨rs, rfl⟩ := refsTo_at l h
  exact T.refs rs
section
variable {prog : Program} {w : World} {A : Around} {E : Value → Shared → Prop} {R : Result → Shared → Prop} {hp : Heap} {g : Array GenState} {d : Drawn} {t : Nat} {os : OsState}
variable {K : W.Frag} {name : Str} {tk : Tok} {v : Value} {x C : Addr} {fv : Array Value} {cd : ClassData}
/-- the way to the object's own dict -/
theorem ec_way {ox : Obj} {od : Option Obj} (X : K.In hp) (I : W.InstAt hp x ox C od) (hcd : W.clsIn K C = some cd) (S : StoreOk cd.mro) (ha : W.findIn K (.ref C) name = some none)
    (hq : wpAny (model prog w) A.in1 (storeInOwnDict (.ref x) (.ref C) (.str name tk) name v false) (fun fin s' => match fin with | .done f => R (.ok f) s' | .again c' => c'.quiet = true ∧ codeAny (model prog w) A c' R s') (fun e s' => R (.error e) s') ⟨hp, g, d, t, os⟩) :
    codeAny (model prog w) A (.call (.builtin "object.__setattr__") ⟨[.ref x, .str name tk, v], []⟩) R ⟨hp, g, d, t, os⟩ := by
  have SF := F.store_object
  have sub : W.Looks (model prog w) hp (isInstance (.ref x) (.type "object")) true := I.type.andThen (W.looks_mroIn X (by unfold W.mroIn; rw [hcd, Option.bind_some, if_neg (by rw [S.ne]; decide), S.ob]))
  refine codeAny_call_builtin SF.slot.plain SF.entry (@W.check_slot (model prog w) _ _ ⟨hp, g, d, t, os⟩ "object.__setattr__" "object" "__setattr__" (.ref x) [.str name tk, v] [] _ SF.kind SF.split sub (SF.args (.ref x) (.str name tk) v) ?_)
  rw [W.osa_eq, refuse_eq]
  refine wpAny_bind (wpAny_bind (I.type.at (wpAny_bind (((W.looks_clsIn X hcd).andThen .now : W.Looks (model prog w) hp (mroOf (.ref C)) cd.mro).at ?_))))
  rw [S.ps]
  refine wpAny_pure (wpAny_bind (I.type.at (wpAny_bind ((W.looks_findIn X ha).at (wpAny_bind ((.now : W.Looks (model prog w) hp (storeTaker? none) none).at ?_))))))
  exact hq
theorem ec_first (X : K.In hp) (hx : hp.get? x = some { cls := .ref C, data := .fields fv }) (hcd : W.clsIn K C = some cd) (S : StoreOk cd.mro) (hh : cd.hasDict = true) (ha : W.findIn K (.ref C) name = some none)
    (hq : ∀ h' tk' dx, (∀ b o, b ≠ x → hp.get? b = some o → h'.get? b = some o) → hp.objs.size ≤ dx → dx ≠ x → h'.get? x = some { cls := .ref C, dict := some dx, data := .fields fv } → h'.Ns1 dx (fun y => if y = name then some v else none) → R (.ok (.ret .none)) ⟨h', g, d, tk', os⟩) :
    codeAny (model prog w) A (.call (.builtin "object.__setattr__") ⟨[.ref x, .str name tk, v], []⟩) R ⟨hp, g, d, t, os⟩ := by
  have far : x ≠ hp.objs.size := Nat.ne_of_lt (Heap.lt_size hx)
  have lc : W.Looks (model prog w) hp (classData C) cd := W.looks_clsIn X hcd
  refine ec_way (od := none) X ⟨hx, rfl, rfl, trivial⟩ hcd S ha ?_
  obtain ⟨nm, bs, mro, ns, qn, hd, sn, sb, ab, col, del⟩ := cd
  obtain rfl : hd = true := hh
  unfold storeInOwnDict ownDictForStores
  repeat (first | with_reducible refine HandSPX.store_in_new ?_ ?_ | with_reducible refine wpAny_loadPart_at hx ?_ | with_reducible refine lc.at ?_ | wp_step)
  · exact ⟨_, #[], _, (Heap.get?_update_ne _ _ _ _ far.symm).trans (Heap.get?_push_at rfl rfl), rfl, fun e he => absurd he (by simp), fun _ => rfl⟩
  · intro h' tk' hn' hs
    refine hq h' tk' hp.objs.size (fun b o hb ho => ?_) (Nat.le_refl _) far.symm ((hs.2 x far).trans (Heap.get?_update_self _ (Heap.get?_push_of_some _ hx) rfl)) hn'
    rw [hs.2 b (Nat.ne_of_lt (Heap.lt_size ho)), Heap.get?_update_ne _ _ _ _ hb]
    exact Heap.get?_push_of_some _ ho
theorem ec_more {dx : Addr} {m0 : Str → Option Value} {nl : List Str} (X : K.In hp) (hx : hp.get? x = some { cls := .ref C, dict := some dx, data := .fields fv }) (hns : hp.Ns1 dx m0) (hw : Within m0 nl) (hz : nl.length ≤ 1000) (hcd : W.clsIn K C = some cd) (S : StoreOk cd.mro) (hh : cd.hasDict = true)
    (ha : W.findIn K (.ref C) name = some none)
    (hq : ∀ h' tk', (∀ b o, b ≠ dx → hp.get? b = some o → h'.get? b = some o) → h'.Ns1 dx (fun y => if y = name then some v else m0 y) → R (.ok (.ret .none)) ⟨h', g, d, tk', os⟩) :
    codeAny (model prog w) A (.call (.builtin "object.__setattr__") ⟨[.ref x, .str name tk, v], []⟩) R ⟨hp, g, d, t, os⟩ := by
  obtain ⟨oD, _, _, hoD, _, _⟩ := hns.count hw
  have lc : W.Looks (model prog w) hp (classData C) cd := W.looks_clsIn X hcd
  refine ec_way (od := some oD) X ⟨hx, rfl, rfl, hoD⟩ hcd S ha ?_
  obtain ⟨nm, bs, mro, ns, qn, hd, sn, sb, ab, col, del⟩ := cd
  obtain rfl : hd = true := hh
  unfold storeInOwnDict ownDictForStores
  repeat (first | with_reducible refine OEX.store_in_old hns hw hz ?_ | with_reducible refine wpAny_loadPart_at hx ?_ | with_reducible refine lc.at ?_ | wp_step)
  intro h' tk' hn' hs
  exact hq h' tk' (fun b o hb ho => (hs.2 b hb).trans ho) hn'
end
end Dw

/-! DwExcC: the hand layer's rules: such an exception is made, its fields are stored and read, isinstance. -/
namespace Dw
open PySem PySem.Spec PyProof.Rows L2
/-- what the written part says of an exception class of the program -/
structure EcC (K : PySem.W.Frag) (C : Addr) (B newId : String) : Prop where
  cls : ∃ o bm, K.lookup C = some o ∧ EcO C B newId o bm ∧ StoreOk (Value.ref C :: bm)
  sa : PySem.W.findIn K (.ref C) "__setattr__" = some (some (.builtin "object.__setattr__"))
  xf : XfC K C
  kC : PySem.W.keepIn K (.ref C) = true
  hcl : (PySem.W.clsIn K C).isSome = true
  hca : PySem.W.findIn K (.ref C) "__class__" = some (some (.builtin "object.__class__"))
theorem EcC.cd {K : PySem.W.Frag} {C : Addr} {B newId : String} (T : EcC K C B newId) : ∃ cd, PySem.W.clsIn K C = some cd ∧ StoreOk cd.mro ∧ cd.hasDict = true := by
  obtain ⟨o, bm, lk, O, S⟩ := T.cls
  obtain ⟨nm, q, N, bs, sn, sub, ab, col, dd, k0, k1, k2, k3, k5, rfl⟩ := O.at_
  refine ⟨{ name := nm, bases := bs, mro := .ref C :: bm, ns := N, qualname := q, hasDict := true, slotNames := sn, subclasses := sub, abstract := ab, collection := col, hasDel := false }, ?_, S, rfl⟩
  unfold PySem.W.clsIn
  rw [lk]
section
variable {X : Cx} {pins : List (Addr × Obj)} {σ : L2.St} {H : Hp} {s : Shared} {a C dx : Addr} {B newId initId : String} {bmB : List Value} {f : Str} {y : V} {u : Value} {fs : List (Str × V)} {Q : Unit → Shared → Prop} {E : Value → Shared → Prop} {A : Around}
/-- self.f = y, the first field -/
theorem ec_st1 (T : EcC X.K C B newId) (I : Inv X pins σ H s) (e : H a = some (exo a C none)) (hno : PySem.W.findIn X.K (.ref C) f = some none) (ry : RelV y u)
    (q : ∀ dx s', H dx = none → dx ≠ a → Inv X pins σ (upd (upd H dx (exd dx [(f, y)])) a (exo a C (some dx))) s' → Q () s') : wpAny (model X.prog X.w) A (setAttr (.ref a) f u) Q E s := by
  obtain ⟨cd, hcl, S, hd⟩ := T.cd
  obtain ⟨t1, ho⟩ := exo_at I.hok e
  obtain ⟨hp, g, d, t, os⟩ := s
  refine PySem.W.set_plain I.kIn (ox := { cls := .ref C, dict := none, data := .fields #[.ref t1, .none, .none, .none, .bool false, .none] }) (od := none) ⟨ho, rfl, rfl, trivial⟩ T.sa ?_
  refine ec_first I.kIn ho hcl S hd hno fun h' tk' dx k dn dne hx hn => ?_
  -- the heap with the old object at a
  have back : ∃ hm : Heap, hm.get? a = some ({ cls := .ref C, dict := none, data := .fields #[.ref t1, .none, .none, .none, .bool false, .none] } : Obj) ∧ ∀ b, b ≠ a → hm.get? b = h'.get? b :=
    ⟨h'.update a fun _ => { cls := .ref C, dict := none, data := .fields #[.ref t1, .none, .none, .none, .bool false, .none] }, Heap.get?_update_self _ hx rfl, fun b hb => Heap.get?_update_ne _ _ _ _ hb⟩
  obtain ⟨hm, ma, mb⟩ := back
  have nd : H dx = none := I.hok.fresh dn
  have I1 : Inv X pins σ (upd H dx (exd dx [(f, y)])) ⟨hm, g, d, tk', os⟩ := I.laid (a := dx) (t' := tk') (fun b o z => by
    by_cases hb : b = a
    · subst hb
      rw [ma, ← show hp.get? b = _ from ho]
      exact z
    · rw [mb b hb]
      exact k b o hb z) dn (exd_ok (mA := fun z => if z = f then some u else none) (by
        obtain ⟨o, es, ep, e1, e2⟩ := hn
        exact ⟨o, es, ep, (mb dx dne).trans e1, e2⟩) (relO_put (fs := []) ry fun g => True.intro))
  have ne : dx ≠ a := dne
  refine q dx ⟨h', g, d, tk', os⟩ nd dne (I1.write (t' := tk') (x := a) (e := a) (o := exo a C (some dx)) (by rw [upd_ne (Ne.symm ne), e]; exact True.intro) (.inl rfl) (fun b o hb z => by rw [← mb b hb]; exact z) ⟨_, hx⟩ (exo_ok hx))
/-- self.f = y, a further field -/
theorem ec_st2 (T : EcC X.K C B newId) (I : Inv X pins σ H s) (e : H a = some (exo a C (some dx))) (ed : H dx = some (exd dx fs)) (hl : fs.length ≤ 900) (hno : PySem.W.findIn X.K (.ref C) f = some none) (ry : RelV y u)
    (q : ∀ s', Inv X pins σ (upd H dx (exd dx ((f, y) :: fs))) s' → Q () s') : wpAny (model X.prog X.w) A (setAttr (.ref a) f u) Q E s := by
  obtain ⟨cd, hcl, S, hd⟩ := T.cd
  obtain ⟨t1, ho⟩ := exo_at I.hok e
  obtain ⟨mA, hns, rel⟩ := exd_at I.hok ed
  have hw := within_of rel
  obtain ⟨hp, g, d, t, os⟩ := s
  obtain ⟨oD, _, _, hoD, _, _⟩ := hns.count hw
  refine PySem.W.set_plain I.kIn (ox := { cls := .ref C, dict := some dx, data := .fields #[.ref t1, .none, .none, .none, .bool false, .none] }) (od := some oD) ⟨ho, rfl, rfl, hoD⟩ T.sa ?_
  refine ec_more I.kIn ho hns hw (by rw [List.length_map]; omega) hcl S hd hno fun h' tk' k hn => q _ (I.write (t' := tk') (x := dx) (e := dx) (o := exd dx ((f, y) :: fs)) (by rw [ed]; exact True.intro) (.inl rfl) k ?_ (exd_ok hn (relO_put ry rel)))
  obtain ⟨o, _, _, e', _⟩ := hn
  exact ⟨o, e'⟩
/-- self.f = e -/
def tEst (K : PySem.W.Frag) (f : Str) (to te : TE) : TS := fun D σ H => te σ H fun y H1 => to σ H1 fun x H2 => ∃ (a C : Addr) (B newId : String), x = .ref a ∧ EcC K C B newId ∧ PySem.W.findIn K (.ref C) f = some none ∧
  ((H2 a = some (exo a C none) ∧ ∀ dx, H2 dx = none → dx ≠ a → D.nx σ (upd (upd H2 dx (exd dx [(f, y)])) a (exo a C (some dx)))) ∨
    ∃ (dx : Addr) (fs : List (Str × V)), H2 a = some (exo a C (some dx)) ∧ H2 dx = some (exd dx fs) ∧ fs.length ≤ 900 ∧ D.nx σ (upd H2 dx (exd dx ((f, y) :: fs))))
theorem ps_est {o e : Expr} {to te : TE} {p' pos : Pos} (ho : PE X o to) (he : PE X e te) (hs : swapsWith e (some (.Attribute o f p')) pos.line X.env = pure false := by rfl) : PS X (.Assign [.Attribute o f p'] e pos) (tEst X.K f to te) :=
  ⟨fun pins s σ H D I h => plainObj_wpAny_Assign_Attribute (thn (he.run pins s σ H _ I h) fun v s1 ⟨y, H1, I1, r1, q1⟩ => thn (ho.run pins s1 σ H1 _ I1 q1) fun u s2 ⟨x, H2, I2, r2, a, C, B, ni, ex, T, hno, q⟩ => by
    subst ex
    obtain rfl : u = Value.ref a := r2
    rcases q with ⟨ea, q⟩ | ⟨dx, fs, ea, ed, hl, q⟩
    · exact ec_st1 T I2 ea hno r1 fun dx s' n ne J => ⟨σ, _, J, q dx n ne⟩
    · exact ec_st2 T I2 ea ed hl hno r1 fun s' J => ⟨σ, _, J, q⟩) hs⟩
end
/-! ### made -/
section
variable {X : Cx} {k : Nat} {C fI : Addr} {fd : FuncData} {ps ks : List Str} {sp : Sp} {x : Str} {p pos : Pos} {e : Expr} {es : List Expr} {kws : List Keyword} {ta tk : TA} {B newId initId : String} {bmB : List Value}
theorem ec_run {pins : List (Addr × Obj)} {σ : L2.St} {H : Hp} {s : Shared} {Q : VK} {us full : List Value} {kw : List (Str × Value)} {vs : List V} (T : EcC X.K C B newId) (F0 : ExcBaseFacts B newId initId bmB) (F : FnOk X.prog X.w X.K X.mg X.base CX0 k fI fd ps sp) (hr : Room (k + 1) X.A)
    (iC : PySem.W.findIn X.K (.ref C) "__init__" = some (some (.ref fI))) (tI : PySem.W.typeIn X.K (.ref fI) = some (.type "function")) (I : Inv X pins σ H s) (hl : us.length ≤ sizeLine)
    (hb : ∀ s' : Shared, X.K.In s'.heap → BindsTo s' fd ⟨.ref (s.heap.objs.size + 1) :: us, kw⟩ (ps.zip full)) (r : Vals vs full)
    (q : sp vs (upd H (s.heap.objs.size + 1) (exo (s.heap.objs.size + 1) C none)) (fun v H2 => v = .non ∧ Q (.ref (s.heap.objs.size + 1)) H2) fun _ _ _ => False) :
    wpAny (model X.prog X.w) X.A (call (.ref C) us kw) (EP X pins σ Q) X.xe s := by
  obtain ⟨o, bm, lk, O, S⟩ := T.cls
  obtain ⟨hp, g, d, t, os⟩ := s
  have n1 : hp.objs.size ≤ hp.objs.size + 1 := Nat.le_succ _
  have kk : ∀ b o, hp.get? b = some o → ((hp.push (PySem.W.kdv_tup us)).push (PySem.HandSPX.excO C hp.objs.size)).get? b = some o := fun b o z => Heap.get?_push_of_some _ (Heap.get?_push_of_some _ z)
  have made : ((hp.push (PySem.W.kdv_tup us)).push (PySem.HandSPX.excO C hp.objs.size)).get? (hp.objs.size + 1) = some (PySem.HandSPX.excO C hp.objs.size) := by heap_get
  have J : Inv X pins σ (upd H (hp.objs.size + 1) (exo (hp.objs.size + 1) C none)) ⟨(hp.push (PySem.W.kdv_tup us)).push (PySem.HandSPX.excO C hp.objs.size), g, d, t, os⟩ := I.laid (t' := t) kk n1 (exo_ok made)
  refine wpAny_call (ec_call F0 O (I.kIn _ _ lk) hl (PySem.W.looks_findIn I.kIn iC) (fun self => PySem.W.bind_fn I.kIn self tI)
    (codeAny_mono (F.run _ X.stack _ _ ⟨Value.ref (hp.objs.size + 1) :: us, kw⟩ full vs _ (fun _ _ _ => False) (hr.make C us kw) (J.env0.make C us kw) (hb _ J.kIn) r q) fun r s' hq => ?_))
  match r, hq with
  | .ok (.ret u), hq =>
    obtain ⟨v, H2, I2, rv, ev, q2⟩ := J.after hq
    subst ev
    exact ⟨rv, .ref (hp.objs.size + 1), H2, I2, rfl, q2⟩
  | .ok .next, hq => exact hq.elim
  | .ok .brk, hq => exact hq.elim
  | .ok .cont, hq => exact hq.elim
  | .error e, hq => exact hq.elim
/-- C(e, ..) -/
def tExI (C : Addr) (sp : Sp) (ta : TA) : TE := fun σ H Q => ta σ H fun vs H1 => vs.length ≤ 1000 ∧ ∀ a, H1 a = none → sp (.ref a :: vs) (upd H1 a (exo a C none)) (fun v H2 => v = .non ∧ Q (.ref a) H2) fun _ _ _ => False
theorem pe_exI (T : EcC X.K C B newId) (F0 : ExcBaseFacts B newId initId bmB) (F : FnOk X.prog X.w X.K X.mg X.base CX0 k fI fd ps sp) (hr : Room (k + 1) X.A) (iC : PySem.W.findIn X.K (.ref C) "__init__" = some (some (.ref fI))) (tI : PySem.W.typeIn X.K (.ref fI) = some (.type "function"))
    (hb : Binds X.K fd ps []) (hg : Gl X x) (hm : X.mg x = some (.ref C)) (ha : PA X (e :: es) ta)
    (hdb : (x == ("__debug__" : Str)) = false := by decide) (he : starEach (e :: es) X.env = (false, eval e X.env) :: starEach es X.env := by rfl) (hpl : (backTo pos (starEach es X.env)).any (·.1) = false := by rfl) :
    PE X (.Call (.Name x p) (e :: es) [] pos) (tExI C sp ta) := ⟨fun pins s σ H Q I h =>
  wpAny_Call_Name_kw (ld_glob I hg hm (PySem.W.callWith_K (h₀ := X.base) I.ok.mod.kin T.kC (thn (ha.run pos pins s σ H _ I h) fun us s1 ⟨vs, H1, I1, r, hl, q⟩ => ⟨I1.kIn, by
    have q1 := q (s1.heap.objs.size + 1) (I1.hok.fresh (Nat.le_succ _))
    have r1 : Vals (V.ref (s1.heap.objs.size + 1) :: vs) (Value.ref (s1.heap.objs.size + 1) :: us) := .cons rfl r
    have l1 : (Value.ref (s1.heap.objs.size + 1) :: us).length = ps.length := by rw [← r1.length]; exact F.len _ _ _ _ q1
    refine ec_run (us := us) T F0 F hr iC tI I1 (by rw [← r.length, sizeLine_eq]; omega) (fun s' X' => ?_) r1 q1
    have z := hb s' (Value.ref (s1.heap.objs.size + 1) :: us) X' (by rw [List.append_nil]; exact l1)
    rw [List.append_nil] at z
    exact z⟩) he hpl) hdb)⟩
/-- C(k = v, ..) -/
def tExK (C : Addr) (m : Nat) (sp : Sp) (gV : List V → List V) (tk : TA) : TE := fun σ H Q => tk σ H fun zs H1 => zs.length = m ∧ ∀ a, H1 a = none → sp (.ref a :: gV zs) (upd H1 a (exo a C none)) (fun v H2 => v = .non ∧ Q (.ref a) H2) fun _ _ _ => False
theorem pe_exK {g : List Value → List Value} {gV : List V → List V} (T : EcC X.K C B newId) (F0 : ExcBaseFacts B newId initId bmB) (F : FnOk X.prog X.w X.K X.mg X.base CX0 k fI fd ps sp) (hr : Room (k + 1) X.A) (iC : PySem.W.findIn X.K (.ref C) "__init__" = some (some (.ref fI))) (tI : PySem.W.typeIn X.K (.ref fI) = some (.type "function"))
    (hb : ∀ (v : Value) (ws : List Value) (s : Shared), X.K.In s.heap → ws.length = ks.length → BindsTo s fd ⟨[v], ks.zip ws⟩ (ps.zip (v :: g ws))) (hrel : ∀ {zs : List V} {ws : List Value}, Vals zs ws → zs.length = ks.length → Vals (gV zs) (g ws)) (hg : Gl X x) (hm : X.mg x = some (.ref C)) (hkw : PK X kws tk)
    (hall : (backToKw pos (keywordEach kws X.env)).all (·.1.isSome) = true := by rfl) (hks : (backToKw pos (keywordEach kws X.env)).filterMap (·.1) = ks := by rfl) (hdb : (x == ("__debug__" : Str)) = false := by decide)
    (hpl : ((backTo pos (starEach [] X.env)).any (·.1) || (backToKw pos (keywordEach kws X.env)).any (·.1.isNone)) = false := by rfl) :
    PE X (.Call (.Name x p) [] kws pos) (tExK C ks.length sp gV tk) := ⟨fun pins s σ H Q I h =>
  wpAny_Call_Name_kw (ld_glob I hg hm (PySem.W.callWith_KW0 (h₀ := X.base) I.ok.mod.kin T.kC hall (thn (hkw.run pos pins s σ H _ I h) fun ws s1 ⟨zs, H1, I1, r, hl, q⟩ => ⟨I1.kIn, by
    rw [hks]
    exact ec_run (us := []) T F0 F hr iC tI I1 (by rw [sizeLine_eq]; decide) (fun s' X' => hb _ ws s' X' (by rw [← r.length]; exact hl)) (.cons (show RelV (V.ref (s1.heap.objs.size + 1)) (Value.ref (s1.heap.objs.size + 1)) from rfl) (hrel r hl)) (q (s1.heap.objs.size + 1) (I1.hok.fresh (Nat.le_succ _)))⟩) hpl) hdb)⟩
/-- C(), no own __init__ -/
theorem pe_ex0 (F : ExcBaseFacts B newId initId bmB) (q : PySem.W.excIn X.K C bmB newId = true) (gC : X.mg x = some (.ref C)) (kC : PySem.W.keepIn X.K (.ref C) = true) (hg : Gl X x) (hdb : (x == ("__debug__" : Str)) = false := by decide) :
    PE X (.Call (.Name x p) [] [] pos) (fun σ H Q => ∀ a, H a = none → Q (.ref a) (upd H a (exo a C none))) := by
  refine ⟨fun pins s σ H Q I h => ?_⟩
  refine wpAny_Call_Name_kw (ld_glob I hg gC (PySem.W.callWith_K0 I.kIn kC ?_) hdb)
  show wpAny _ _ (call (.ref C) []) _ _ _
  obtain ⟨bm, N, nm, qn, bs, hdct, sn, sub, ab, col, dd, k0, k1, k2, k3, k5, mN, hC, hN, hni, T⟩ := exc_obj I.kIn q
  refine wpAny_call_exc_subT F T hC hN hni (fun h' a hm => ?_) (by show 0 ≤ sizeLine; exact Nat.zero_le _)
  have hn : H a = none := I.hok.gone hm.new
  obtain ⟨t, ht, _, _⟩ := hm.there
  exact ⟨.ref a, upd H a (exo a C none), I.laidN hm.keeps hm.new hn (exo_ok ht), rfl, h a hn⟩
/-- e.f of an exception -/
def tExF (K : PySem.W.Frag) (f : Str) (te : TE) : TE := fun σ H Q => te σ H fun x H1 => ∃ (a C dx : Addr) (fs : List (Str × V)) (v : V), x = .ref a ∧ XfC K C ∧ PySem.W.findIn K (.ref C) f = some none ∧ H1 a = some (exo a C (some dx)) ∧ H1 dx = some (exd dx fs) ∧ fs.lookup f = some v ∧ Q v H1
theorem pe_exF {te : TE} {f : Str} (he : PE X e te) (hb : attributeBase e f X.env (eval e X.env) = eval e X.env := by rfl) : PE X (.Attribute e f pos) (tExF X.K f te) := by
  refine ⟨fun pins s σ H Q I h => attr_of hb (thn (he.run pins s σ H _ I h) fun u s1 hh => ?_)⟩
  obtain ⟨y, H1, I1, ry, a, D, dx, fs, v, ey, T, hno, ea, ed, l, q⟩ := hh
  subst ey
  obtain rfl : u = Value.ref a := ry
  obtain ⟨t1, ho⟩ := exo_at I1.hok ea
  obtain ⟨mA, hns, rel⟩ := exd_at I1.hok ed
  obtain ⟨od, hod, hlk⟩ := lookIn_ns hns
  obtain ⟨u, hu, ru⟩ := RelO.some_of (v := v) (o := mA f) (by rw [← l]; exact rel f)
  exact PySem.HandSPX.exc_get I1.kIn (x := a) (C := D) (od := some od) ⟨ho, rfl, rfl, hod⟩ T.ga T.gg T.exC (PySem.W.findObj_own T.hdC hno rfl (by rw [hlk, hu])) (handed_of ru) ⟨v, H1, I1.tok _, ru, q⟩
/-- isinstance(e, c), e such an exception -/
def rIsX (K : PySem.W.Frag) : List V → Hp → VK → Prop := fun xs H Q => ∃ (a C : Addr) (o : Option Addr) (c : V) (u : Value) (b : Bool), xs = [.ref a, c] ∧ H a = some (exo a C o) ∧ (∀ d, o = some d → ∃ fs, H d = some (exd d fs)) ∧ XfC K C ∧ (PySem.W.clsIn K C).isSome = true ∧
  PySem.W.findIn K (.ref C) "__class__" = some (some (.builtin "object.__class__")) ∧ PySem.W.mroIn K C (.type "object") = some true ∧ ClsV c u ∧ PySem.W.kitOne K (.ref C) u = some b ∧ Q (.bl b) H
theorem call_isX : CallR X (.builtin "isinstance") (rIsX X.K) := by
  intro pins s σ H xs us Q I r h
  obtain ⟨a, D, o, c, u, b, rfl, ea, ed, T, hcl, hca, hm, k, ek, q⟩ := h
  obtain ⟨u1, u2, rfl, r1, r2⟩ := vals2 r
  obtain rfl : u1 = Value.ref a := r1
  have e2 := k.eq r2
  subst e2
  obtain ⟨t1, ho⟩ := exo_at I.hok ea
  have J : ∃ od, PySem.W.InstAt s.heap a { cls := .ref D, dict := o, data := .fields #[.ref t1, .none, .none, .none, .bool false, .none] } D od := by
    cases o with
    | none => exact ⟨none, ho, rfl, rfl, trivial⟩
    | some d =>
      obtain ⟨fs, ed⟩ := ed d rfl
      obtain ⟨mA, hns, _⟩ := exd_at I.hok ed
      obtain ⟨od, hod, _⟩ := lookIn_ns hns
      exact ⟨some od, ho, rfl, rfl, hod⟩
  obtain ⟨od, J⟩ := J
  exact PySem.W.kia_one (PySem.W.kitx_exc hcl T.ga T.gg T.exC hca (by kernel_rfl) (by kernel_rfl) hm) I.kIn J ek (fun z => nomatch z) fun tk => ⟨.bl b, H, I.tok tk, rfl, q⟩
end
end Dw

/-! DwExcD: exceptions as data: made, read, asked for their class. -/
namespace Dw
open PySem PySem.Spec PyProof.Rows L2
/-- __init__ with one field f -/
def spI1 (C : Addr) (f : Str) : Sp := fun vs H Q _ => ∃ a y, vs = [.ref a, y] ∧ H a = some (exo a C none) ∧ ∀ dx, H dx = none → dx ≠ a → Q .non (upd (upd H dx (exd dx [(f, y)])) a (exo a C (some dx)))
/-- __init__ with two fields, f first -/
def spI2 (C : Addr) (f g : Str) : Sp := fun vs H Q _ => ∃ a y z, vs = [.ref a, y, z] ∧ H a = some (exo a C none) ∧ ∀ dx, H dx = none → dx ≠ a → Q .non (upd (upd (upd H dx (exd dx [(f, y)])) a (exo a C (some dx))) dx (exd dx [(g, z), (f, y)]))
theorem lk_cons {α : Type} (n g : Str) (y : α) (fs : List (Str × α)) : ((n, y) :: fs).lookup g = if g = n then some y else fs.lookup g := by
  rw [List.lookup_cons]
  by_cases h : g = n
  · rw [if_pos h, beq_iff_eq.mpr h]
  · rw [if_neg h, beq_eq_false_iff_ne.mpr h]
section
variable {M : Md} {O : List Addr} {r : List Sl} {k : D → Prop} {te : TE} {ta : TA} {C : Addr} {f g : Str} {σ : L2.St} {H : Hp}
theorem rep_ref {K : PySem.W.Frag} {N : No} {H : Hp} {d : D} {v : V} (h : Rep K N H d v) (e : ∃ a, d = .ref a) : True := trivial
theorem sm_two {H : Hp} {a dx : Addr} {o1 o2 o3 : HO} (na : H a = none) (nd : H dx = none) : Sm (fun _ => False) H (upd (upd (upd H a o1) dx o2) a o3) := fun b u _ e => by
  rw [upd_ne (ne_of_none e na), upd_ne (ne_of_none e nd), upd_ne (ne_of_none e na)]
  exact e
theorem sm_three {H : Hp} {a dx : Addr} {o1 o2 o3 o4 : HO} (na : H a = none) (nd : H dx = none) : Sm (fun _ => False) H (upd (upd (upd (upd H a o1) dx o2) a o3) dx o4) := fun b u _ e => by
  rw [upd_ne (ne_of_none e nd)]
  exact sm_two na nd b u (fun z => z) e
/-- C(d) is there -/
theorem rep_ex1 (R : Rp M O r σ H) {a dx : Addr} {d : D} {v : V} (na : H a = none) (nd : (upd H a (exo a C none)) dx = none) (ne : dx ≠ a) (p : Rep M.K (nf M O) H d v) :
    Rep M.K (nf M O) (upd (upd (upd H a (exo a C none)) dx (exd dx [(f, v)])) a (exo a C (some dx))) (.exc C [f] [d]) (.ref a) := by
  rw [upd_ne ne] at nd
  exact ⟨a, some dx, [v], rfl, new_no R na, upd_same, .inr ⟨dx, rfl, new_no R nd, by rw [upd_ne ne, upd_same]; rfl⟩, rfl, .one (p.mono (sm_0 (sm_two na nd)))⟩
theorem rep_ex2 (R : Rp M O r σ H) {a dx : Addr} {d d2 : D} {v v2 : V} (na : H a = none) (nd : (upd H a (exo a C none)) dx = none) (ne : dx ≠ a) (p : Rep M.K (nf M O) H d v) (p2 : Rep M.K (nf M O) H d2 v2) :
    Rep M.K (nf M O) (upd (upd (upd (upd H a (exo a C none)) dx (exd dx [(f, v)])) a (exo a C (some dx))) dx (exd dx [(g, v2), (f, v)])) (.exc C [g, f] [d2, d]) (.ref a) := by
  rw [upd_ne ne] at nd
  refine ⟨a, some dx, [v2, v], rfl, new_no R na, by rw [upd_ne (Ne.symm ne), upd_same], .inr ⟨dx, rfl, new_no R nd, by rw [upd_same]; rfl⟩, rfl, .cons (p2.mono (sm_0 (sm_three na nd))) (.one (p.mono (sm_0 (sm_three na nd))))⟩
theorem de_ex1 (h : DA M ta O r fun ds => ∃ d, ds = [d] ∧ k (.exc C [f] [d])) : De M (tExI C (spI1 C f) ta) O r k := fun σ H Q R z => h σ H _ R fun vs H1 ds R1 e1 p1 q => by
  obtain ⟨d, rfl, q⟩ := q
  obtain ⟨v, t, rfl, p2, p3⟩ := p1
  obtain rfl : t = [] := p3
  refine ⟨by show 1 ≤ 1000; decide, fun a na => ⟨a, v, rfl, upd_same, fun dx nd ne => ⟨rfl, ?_⟩⟩⟩
  have nd' := nd
  rw [upd_ne ne] at nd'
  exact z _ _ (.exc C [f] [d]) (R1.grow (sm_two na nd')) (e1.trans (sm_0 (sm_two na nd'))) (rep_ex1 R1 na nd ne p2) q
theorem de_ex2 (h : DA M ta O r fun ds => ∃ d d2, ds = [d, d2] ∧ k (.exc C [g, f] [d2, d])) : De M (tExI C (spI2 C f g) ta) O r k := fun σ H Q R z => h σ H _ R fun vs H1 ds R1 e1 p1 q => by
  obtain ⟨d, d2, rfl, q⟩ := q
  obtain ⟨v, t, rfl, p2, v2, t2, rfl, p3, p4⟩ := p1
  obtain rfl : t2 = [] := p4
  refine ⟨by show 2 ≤ 1000; decide, fun a na => ⟨a, v, v2, rfl, upd_same, fun dx nd ne => ⟨rfl, ?_⟩⟩⟩
  have nd' := nd
  rw [upd_ne ne] at nd'
  exact z _ _ (.exc C [g, f] [d2, d]) (R1.grow (sm_three na nd')) (e1.trans (sm_0 (sm_three na nd'))) (rep_ex2 R1 na nd ne p2 p3) q
theorem de_exK1 (h : DA M ta O r fun ds => ∃ d, ds = [d] ∧ k (.exc C [f] [d])) : De M (tExK C 1 (spI1 C f) id ta) O r k := fun σ H Q R z => h σ H _ R fun vs H1 ds R1 e1 p1 q => by
  obtain ⟨d, rfl, q⟩ := q
  obtain ⟨v, t, rfl, p2, p3⟩ := p1
  obtain rfl : t = [] := p3
  refine ⟨rfl, fun a na => ⟨a, v, rfl, upd_same, fun dx nd ne => ⟨rfl, ?_⟩⟩⟩
  have nd' := nd
  rw [upd_ne ne] at nd'
  exact z _ _ (.exc C [f] [d]) (R1.grow (sm_two na nd')) (e1.trans (sm_0 (sm_two na nd'))) (rep_ex1 R1 na nd ne p2) q
/-- the keywords stand the other way round -/
theorem de_exK2 (h : DA M ta O r fun ds => ∃ d d2, ds = [d2, d] ∧ k (.exc C [g, f] [d2, d])) : De M (tExK C 2 (spI2 C f g) List.reverse ta) O r k := fun σ H Q R z => h σ H _ R fun vs H1 ds R1 e1 p1 q => by
  obtain ⟨d, d2, rfl, q⟩ := q
  obtain ⟨v2, t, rfl, p2, v, t2, rfl, p3, p4⟩ := p1
  obtain rfl : t2 = [] := p4
  refine ⟨rfl, fun a na => ⟨a, v, v2, rfl, upd_same, fun dx nd ne => ⟨rfl, ?_⟩⟩⟩
  have nd' := nd
  rw [upd_ne ne] at nd'
  exact z _ _ (.exc C [g, f] [d2, d]) (R1.grow (sm_three na nd')) (e1.trans (sm_0 (sm_three na nd'))) (rep_ex2 R1 na nd ne p3 p2) q
theorem de_ex0 (q : k (.exc C [] [])) : De M (fun σ H Q => ∀ a, H a = none → Q (.ref a) (upd H a (exo a C none))) O r k := fun σ H Q R z a na =>
  z _ _ (.exc C [] []) (R.grow (sm_new na)) (sm_0 (sm_new na)) ⟨a, none, [], rfl, new_no R na, upd_same, .inl ⟨rfl, rfl⟩, rfl, rfl⟩ q
theorem de_exF (h : De M te O r fun x => ∃ C ns ds d, x = .exc C ns ds ∧ XfC M.K C ∧ PySem.W.findIn M.K (.ref C) f = some none ∧ (ns.zip ds).lookup f = some d ∧ k d) : De M (tExF M.K f te) O r k := fun σ H Q R z => h σ H _ R fun v H1 x R1 e1 p1 q => by
  obtain ⟨C1, ns, ds, d, rfl, T, hno, l, q⟩ := q
  obtain ⟨a, o, vs, rfl, na, ha, ho, hl, hr⟩ := p1
  have key : ∀ {ns : List Str} {ds : List D} {vs : List V}, RepL M.K (nf M O) H1 ds vs → (ns.zip ds).lookup f = some d → ∃ v, (ns.zip vs).lookup f = some v ∧ Rep M.K (nf M O) H1 d v := by
    intro ns
    induction ns with
    | nil => intro ds vs _ l; cases l
    | cons n ns ih =>
      intro ds vs hr l
      cases ds with
      | nil => cases l
      | cons e ds =>
        obtain ⟨u, t, rfl, h1, h2⟩ := hr
        show ∃ v, ((n, u) :: ns.zip t).lookup f = some v ∧ _
        have l2 : ((n, e) :: ns.zip ds).lookup f = some d := l
        rw [lk_cons] at l2 ⊢
        by_cases hf : f = n
        · rw [if_pos hf] at l2
          rw [if_pos hf]
          cases l2
          exact ⟨u, rfl, h1⟩
        · rw [if_neg hf] at l2
          rw [if_neg hf]
          exact ih h2 l2
  obtain ⟨v, lv, pv⟩ := key hr l
  rcases ho with ⟨_, rfl⟩ | ⟨dx, rfl, nx, hd⟩
  · cases l
  · exact ⟨a, C1, dx, ns.zip vs, v, rfl, T, hno, ha, hd, lv, z v H1 d R1 e1 pv q⟩
/-- what isinstance asks of a class -/
structure IsX (K : PySem.W.Frag) (C : Addr) : Prop where
  xf : XfC K C
  hcl : (PySem.W.clsIn K C).isSome = true
  hca : PySem.W.findIn K (.ref C) "__class__" = some (some (.builtin "object.__class__"))
  hm : PySem.W.mroIn K C (.type "object") = some true
theorem de_isX {c : V} {u : Value} (hc : ClsV c u) (h : De M te O r fun x => ∃ C ns ds b, x = .exc C ns ds ∧ IsX M.K C ∧ PySem.W.kitOne M.K (.ref C) u = some b ∧ k (.bl b)) : De M (tCB (rIsX M.K) (tCons te (tCons (tC c) tNil))) O r k := fun σ H Q R z => h σ H _ R fun v H1 x R1 e1 p1 q => by
  obtain ⟨C1, ns, ds, b, rfl, T, ek, q⟩ := q
  obtain ⟨a, o, vs, rfl, na, ha, ho, hl, hr⟩ := p1
  refine ⟨a, C1, o, c, u, b, rfl, ha, fun d e => ?_, T.xf, T.hcl, T.hca, T.hm, hc, ek, z (.bl b) H1 (.bl b) R1 e1 rfl q⟩
  rcases ho with ⟨rfl, _⟩ | ⟨dx, rfl, nx, hd⟩
  · cases e
  · cases e
    exact ⟨_, hd⟩
end
end Dw

/-! DwExcE: the facts of a class, to be found by evaluation. -/
namespace Dw
open PySem PySem.Spec PyProof.Rows L2
/-- is it an exception class over the tail tl -/
def ecB (K : PySem.W.Frag) (C : Addr) (tl : List Value) (newId : String) : Bool := match K.lookup C with
  | none => false
  | some o => match o.data with
    | .cls cd => decide (o.cls = .type "type") && (decide (cd.mro.head? = some (.ref C)) && (refsTo tl cd.mro.tail && (cd.hasDict && (!cd.hasDel && (decide (o.slots.size = 6) && decide (o.slots.toList[4]? = some (some (.builtin newId))))))))
    | _ => false
theorem refsTo_has {tl l : List Value} {X : String} (h : refsTo tl l = true) : l.contains (.type X) = tl.contains (.type X) := by
  obtain ⟨rs, rfl⟩ := refsTo_at l h
  induction rs with
  | nil => rfl
  | cons r rs ih =>
    have e : refsTo tl (rs.map Value.ref ++ tl) = true := h
    show (Value.ref r :: (rs.map Value.ref ++ tl)).contains _ = _
    rw [List.contains_cons, ih e]
    rfl
theorem ecB_ok {K : PySem.W.Frag} {C : Addr} {tl : List Value} {B newId : String} (S : StoreOk tl) (hB : tl.contains (.type B) = true) (hA : tl.contains (.type "AttributeError") = false) (hN : tl.contains (.type "NameError") = false) (h : ecB K C tl newId = true) :
    ∃ o bm, K.lookup C = some o ∧ EcO C B newId o bm ∧ StoreOk (Value.ref C :: bm) := by
  unfold ecB at h
  cases lk : K.lookup C with
  | none =>
    rw [lk] at h
    cases h
  | some o =>
    rw [lk] at h
    obtain ⟨oc, dd, od, sl⟩ := o
    cases od <;> try cases h
    rename_i cd
    simp only [Bool.and_eq_true, decide_eq_true_eq, Bool.not_eq_true'] at h
    obtain ⟨rfl, hm, hr, hd, hl, hz, hn⟩ := h
    obtain ⟨nm, bs, mro, ns, qn, hdct, sn, sub, ab, col, del⟩ := cd
    dsimp only at hm hr hd hl
    subst hd hl
    cases mro with
    | nil => cases hm
    | cons m bm =>
      cases hm
      obtain ⟨l⟩ := sl
      match l, hz, hn with
      | [k0, k1, k2, k3, k4, k5], _, hn =>
        cases hn
        have hr' : refsTo tl bm = true := hr
        refine ⟨_, bm, rfl, ⟨⟨nm, qn, ns, bs, sn, sub, ab, col, dd, k0, k1, k2, k3, k5, rfl⟩, ?_, ?_, ?_, ?_⟩, store_of S (show refsTo tl (Value.ref C :: bm) = true from hr')⟩
        · rw [refsTo_has hr', hB]
        · rw [refsTo_has hr', hA]
        · rw [refsTo_has hr', hN]
        · rw [refsTo_has hr', S.ob]
def isxB (K : PySem.W.Frag) (C : Addr) : Bool := xfB K C && ((PySem.W.clsIn K C).isSome && (decide (PySem.W.findIn K (.ref C) "__class__" = some (some (.builtin "object.__class__"))) && decide (PySem.W.mroIn K C (.type "object") = some true)))
theorem isxB_ok {K : PySem.W.Frag} {C : Addr} (h : isxB K C = true) : IsX K C := by
  unfold isxB at h
  simp only [Bool.and_eq_true, decide_eq_true_eq] at h
  exact ⟨xfB_ok h.1, h.2.1, h.2.2.1, h.2.2.2⟩
def mkB (K : PySem.W.Frag) (C : Addr) (tl : List Value) (newId : String) : Bool := ecB K C tl newId && (decide (PySem.W.findIn K (.ref C) "__setattr__" = some (some (.builtin "object.__setattr__"))) && PySem.W.keepIn K (.ref C))
theorem mkV_ok {K : PySem.W.Frag} {C : Addr} (h : mkB K C tlV "ValueError.__new__" = true) (x : isxB K C = true) : EcC K C "ValueError" "ValueError.__new__" := by
  unfold mkB at h
  simp only [Bool.and_eq_true, decide_eq_true_eq] at h
  have X := isxB_ok x
  exact ⟨ecB_ok store_V (by decide +kernel) (by decide +kernel) (by decide +kernel) h.1, h.2.1, X.xf, h.2.2, X.hcl, X.hca⟩
theorem mkK_ok {K : PySem.W.Frag} {C : Addr} (h : mkB K C tlK "LookupError.__new__" = true) (x : isxB K C = true) : EcC K C "LookupError" "LookupError.__new__" := by
  unfold mkB at h
  simp only [Bool.and_eq_true, decide_eq_true_eq] at h
  have X := isxB_ok x
  exact ⟨ecB_ok store_K (by decide +kernel) (by decide +kernel) (by decide +kernel) h.1, h.2.1, X.xf, h.2.2, X.hcl, X.hca⟩
/-- no class in the way of a field -/
def noB (K : PySem.W.Frag) (C : Addr) (f : Str) : Bool := decide (PySem.W.findIn K (.ref C) f = some none)
theorem noB_ok {K : PySem.W.Frag} {C : Addr} {f : Str} (h : noB K C f = true) : PySem.W.findIn K (.ref C) f = some none := of_decide_eq_true h
/-- isinstance of each of cs with u, as told -/
def kitB (K : PySem.W.Frag) (cs : List Addr) (u : Value) (p : Nat → Bool) : Bool := (List.range cs.length).all fun i => match cs[i]? with
  | some C => decide (PySem.W.kitOne K (.ref C) u = some (p i))
  | none => false
theorem kitB_ok {K : PySem.W.Frag} {cs : List Addr} {u : Value} {p : Nat → Bool} (h : kitB K cs u p = true) {i : Nat} {C : Addr} (e : cs[i]? = some C) : PySem.W.kitOne K (.ref C) u = some (p i) := by
  have hi : i < cs.length := (List.getElem?_eq_some_iff.mp e).1
  have z := List.all_eq_true.mp h i (List.mem_range.mpr hi)
  rw [e] at z
  exact of_decide_eq_true z
end Dw

namespace Dw
open PySem PySem.Spec PyProof.Rows L2
def topS (i : Nat) : Stmt := PySem.Challenge.pw_nestprops_k01_errors_and_their_attribute.main.body.getD i (.Pass ⟨0, 0, 0, 0⟩)
abbrev sDeal : Stmt := topS 11
abbrev sDraw : Stmt := topS 12
abbrev nDeal : List Str := ["_law_script", "_law_base", "_law_cell", "_law_cells", "_law_number"]
theorem scDeal : FnScope nDeal ["_law_script", "_law_base"] (defScope sDeal) := ⟨rfl, rfl, rfl, by decide +kernel, rfl, by decide +kernel, by decide +kernel⟩
abbrev nDraw : List Str := ["_law_deal_here", "_law_many", "_law_number", "_law_one", "_law_other"]
theorem scDraw : FnScope nDraw ["_law_deal_here", "_law_many"] (defScope sDraw) := ⟨rfl, rfl, rfl, by decide +kernel, rfl, by decide +kernel, by decide +kernel⟩
local macro_rules | `(tactic| walk_at "dw") => `(tactic| first
  | refine de_var rfl ?_ | refine de_int ?_ | refine de_str ?_ | refine de_bl ?_ | refine de_non ?_
  | refine de_intI ?_ | refine de_intB ?_ | refine de_intC ?_ | refine de_eq ?_ | refine de_ne ?_
  | refine da_nil ?_ | refine da_cons ?_ | refine de_max2 ?_ | refine do_none ?_ | refine do_some ?_ | refine dt_test ?_ | refine dt_B ?_ | refine dt_yes ?_
  | refine ⟨_, _, rfl, rfl, ?_⟩ | refine ⟨_, rfl, ?_⟩)
section
variable {P : Program} {w : World} {K : PySem.W.Frag} {mg : Str → Option Value} {base : Heap}
theorem ok_deal {f : Addr} {fd : FuncData} {k : Nat} (F : Fun K "_law_deal" "_law_deal" sDeal f fd) (mM : mg "max" = none) (mL : mg "list" = none) (mR : mg "reversed" = none) : FnOk P w K mg base CX0 (k + 1) f fd ["_law_script", "_law_base"] (spDeal K) := by
  refine F.ok scDeal (fun vs H Q E h => ?_) (fun cdv A outer s H vs Q E hr h => ?_)
  · obtain ⟨a, ns, b, rfl, _⟩ := h
    rfl
  · obtain ⟨a, ns, b, rfl, hS, hlen, b0, b1, q⟩ := h
    have hu := hu_of hr
    refine ⟨_, pss_cons (ps_setLc (i := 3) (own := [("_law_cell", 2)]) (g := gName 2) (tt := tYes) rfl scDeal.nd rfl rfl (sw_true rfl rfl rfl (by decide +kernel)) (pi_list (pe_slice sl_list (pv 0) (po_some (pv 1)) (po_some pe_int)))
          (blkOk_by (N := nDeal) (sc := defScope sDeal) (by decide +kernel)) (fun _ _ _ _ _ => pg_name (i := 2) scDeal.nd rfl (Or.inl rfl)) (fun _ _ _ _ _ => pts_nil)
          (fun _ _ _ _ _ => pe_callB (call_max2 rfl) (by rfl) mM (by decide +kernel) (pa_cons (pv 2) (pa_cons (pe_op op_sub pe_int (pv 2)) pa_nil))))
      (pss_cons (ps_set (i := 4) scDeal.nd rfl (Or.inl rfl) (pe_op op_add pe_int (pv 1)))
      (pss_cons (ps_for PassesOwn.never rfl (pi_list (pv 3)) (pg_name (i := 2) scDeal.nd rfl (Or.inl rfl))
          (pss_one (ps_set (i := 4) scDeal.nd rfl (Or.inl rfl) (pe_op op_mod (pe_op op_add (pe_op op_mul (pv 4) pe_int) (pe_op op_mod (pv 2) pe_int)) pe_int))))
      (pss_one (ps_ret (pe_disp (pps_cons pe_str (pv 4) (pps_cons pe_str pe_int (pps_cons pe_str
          (pe_listRev rfl (by rfl) mL (by rfl) mR (pe_lc (own := [("_law_cell", 2)]) (g := gName 2) (tt := _) (by rfl) scDeal.nd (pi_list (pv 3)) (blkOk_by (N := nDeal) (sc := defScope sDeal) (by decide +kernel))
            (fun _ _ _ _ _ => pg_name (i := 2) scDeal.nd rfl (Or.inl rfl)) (fun _ _ _ _ _ => pts_one (pt_cmpR op_ge (pv 2) (pe_op op_pow pe_int pe_int) (nomark _))) (fun _ _ _ _ _ => pv 2)))
          pps_nil))) (by rfl) (by rfl) (fun z => by cases z) (by decide)))))), ?_⟩
    have R0 : Rp (mdOf K pure0 () H (fun _ => False) (fun _ z => z.elim) (fun _ z => z.elim)) [] (startR 5 [.lst (ns.map D.int), .int b]) (L2.start nDeal [.ref a, .int b]) H :=
      start_rp (M := mdOf K pure0 () H (fun _ => False) (fun _ z => z.elim) (fun _ z => z.elim)) (N := nDeal) (.cons ⟨a, _, rfl, lat_of hS, repL_of_ints ns⟩ (.cons rfl .nil)) trivial
    -- the cells
    refine raw_seq (fun O r => O = [] ∧ ∃ cs : List Int, cs.length ≤ 63 ∧ (∀ c ∈ cs, 0 ≤ c) ∧ r = [.d (.lst (ns.map D.int)), .d (.int b), .un, .d (.lst (cs.map D.int)), .un]) R0 ?_ ?_
    · refine ds_asg (de_lcP (js := [2]) (fun _ _ y => ∃ n : Int, y = .int n ∧ 0 ≤ n) (fun j h => h) (di_list (de_slL ?_)))
      walk_at "dw"
      refine ⟨_, rfl, ?_⟩
      repeat walk_at "dw"
      have hl : (cutD (ns.map D.int) (some b) (some 63)).length ≤ 63 := Nat.le_trans (cutD_len _ _ _) (by rw [List.length_map]; exact hlen)
      refine ⟨Nat.lt_of_le_of_lt hl (by decide), fun O' i x hx => ?_, fun ys hy hc => ?_⟩
      · obtain ⟨n, rfl⟩ : ∃ n, x = D.int n := by
          have h1 := List.mem_of_getElem? hx
          have h2 := List.mem_of_mem_drop (List.mem_of_mem_take h1)
          obtain ⟨n, _, e⟩ := List.mem_map.mp h2
          exact ⟨n, e.symm⟩
        refine dg_name ?_
        repeat walk_at "dw"
        split <;> omega
      · obtain ⟨ms, rfl, hm⟩ := ints_of (P := fun n => 0 ≤ n) fun i y e => by
          obtain ⟨x, ex⟩ : ∃ x, (cutD (ns.map D.int) (some b) (some 63))[i]? = some x := ⟨_, List.getElem?_eq_getElem (by rw [← hy]; exact (List.getElem?_eq_some_iff.mp e).1)⟩
          exact hc i x y ex e
        rw [List.length_map] at hy
        exact ⟨rfl, ms, by omega, hm, rfl⟩
    intro O1 r1 σ1 H1 R1 s1 ⟨e1, cs, hcl, hc, e2⟩
    subst e1 e2
    -- the number
    refine raw_seq (fun O r => O = [] ∧ ∃ n : Int, 0 ≤ n ∧ n < 2147483647 ∧ r = [.d (.lst (ns.map D.int)), .d (.int b), .un, .d (.lst (cs.map D.int)), .d (.int n)]) R1 ?_ ?_
    · refine ds_asg ?_
      repeat walk_at "dw"
      exact ⟨rfl, _, by omega, by omega, rfl⟩
    intro O2 r2 σ2 H2 R2 s2 ⟨e1, n0, hn0, hn1, e2⟩
    subst e1 e2
    refine raw_seq (fun O r => O = [] ∧ ∃ (n : Int) (s : Sl), 0 ≤ n ∧ n < 2147483647 ∧ r = [.d (.lst (ns.map D.int)), .d (.int b), s, .d (.lst (cs.map D.int)), .d (.int n)]) R2 ?_ ?_
    · refine ds_for (js := [2]) (di_list ?_)
      walk_at "dw"
      refine ⟨_, rfl, fun i O r => O = [] ∧ ∃ (n : Int) (s : Sl), 0 ≤ n ∧ n < 2147483647 ∧ r = [.d (.lst (ns.map D.int)), .d (.int b), s, .d (.lst (cs.map D.int)), .d (.int n)], ⟨rfl, n0, .un, hn0, hn1, rfl⟩, fun i x O' r' hx ⟨e1, n, s, h0, h1, e2⟩ => ?_, fun O' r' h => h⟩
      subst e1 e2
      obtain ⟨c, rfl⟩ : ∃ n, x = D.int n := by
        obtain ⟨n, _, e⟩ := List.mem_map.mp (List.mem_of_getElem? hx)
        exact ⟨n, e.symm⟩
      refine dg_name (ds_asg ?_)
      repeat walk_at "dw"
      refine ⟨.inl ⟨by omega, by omega⟩, ?_⟩
      repeat walk_at "dw"
      refine ⟨by decide, ?_⟩
      repeat walk_at "dw"
      refine ⟨by decide, rfl, _, _, Int.emod_nonneg _ (by decide), Int.emod_lt_of_pos _ (by decide), rfl⟩
    intro O3 r3 σ3 H3 R3 s3 ⟨e1, n, s, h0, h1', e2⟩
    subst e1 e2
    -- the dict
    intro p hp
    have R4 := R3.own1 (o := .dK []) hp
    obtain ⟨u4, e4, p4⟩ := R4.slot 4 _ rfl
    have p4 : u4 = .int n := p4
    subst p4
    refine ⟨_, e4, ?_⟩
    have D1 := de_lcF (M := mdOf K pure0 () H (fun _ => False) (fun _ z => z.elim) (fun _ z => z.elim)) (O := [p]) (r := [.d (.lst (ns.map D.int)), .d (.int b), s, .d (.lst (cs.map D.int)), .d (.int n)])
      (wi := iList K (tVar 3)) (g := gName 2) (tt := tTest (tOp (rI0 fun i j => V.bl (decide (j ≤ i))) (tVar 2) (tOp (rI CPow fun i j => V.int (i ^ j.toNat)) (tC (V.int 10)) (tC (V.int 18))))) (te := tVar 2) (vs := [2]) (js := [2]) (k := fun x => ∃ l : List Int, x = .lst (l.map D.int) ∧ ∀ z ∈ l, 0 ≤ z)
      (fun x => match x with
        | .int i => decide ((10 : Int) ^ 18 ≤ i)
        | _ => false) (fun x => x) (fun _ h => h) (by
        refine di_list ?_
        walk_at "dw"
        refine ⟨_, rfl, Nat.lt_of_le_of_lt (by rw [List.length_map]; exact hcl) (by decide : (63 : Nat) < sizeLine), fun O' i x hx => ?_, ?_⟩
        · obtain ⟨c, rfl⟩ : ∃ n, x = D.int n := by
            obtain ⟨n, _, e⟩ := List.mem_map.mp (List.mem_of_getElem? hx)
            exact ⟨n, e.symm⟩
          refine dg_name (dt_test ?_)
          repeat walk_at "dw"
          refine ⟨⟨by decide, by decide, by decide⟩, ?_⟩
          repeat walk_at "dw"
          refine ⟨rfl, fun _ => ?_⟩
          repeat walk_at "dw"
          rfl
        · rw [List.map_id']
          obtain ⟨ms, e, hm⟩ := ints_of (ys := (cs.map D.int).filter fun x => match x with
            | .int i => decide ((10 : Int) ^ 18 ≤ i)
            | _ => false) (P := fun n => 0 ≤ n) fun i y e => by
              have h1 := (List.mem_filter.mp (List.mem_of_getElem? e)).1
              obtain ⟨c, hc1, e1⟩ := List.mem_map.mp h1
              exact ⟨c, e1.symm, hc c hc1⟩
          exact ⟨ms, by rw [e], hm⟩)
    dsimp only [tPairs, tC, tListRev, List.map]
    refine D1 σ3 _ _ R4 fun v H5 d R5 e5 p5 ⟨l, ed, hl⟩ => ?_
    subst ed
    obtain ⟨a5, vs, rfl, h1, h2⟩ := p5
    have ev := repL_ints h2
    subst ev
    refine ⟨a5, _, rfl, h1.sq, fun q5 hq5 => ?_⟩
    have hp5 : H5 p = some (.dK []) := e5 p _ (fun z => z) upd_same
    have npq : p ≠ q5 := ne_of_none hp5 hq5
    refine ⟨by rw [upd_ne npq]; exact hp5, dealKv n 0 q5, rfl, by show 3 ≤ 15; decide, ?_⟩
    have sm : Same H H3 := same_sm R3.sm
    have hpH : H p = none := sm.free hp
    have smH5 : Sm (fun _ => False) H H5 := R5.sm
    have hqH : H q5 = none := (same_sm smH5).free hq5
    refine q (p, q5) _ hpH hqH (fun x o hx => ?_) ⟨n, 0, l.reverse, upd_same, ?_, h0, h1', Int.le_refl 0, fun z hz => hl z (List.mem_reverse.mp hz)⟩
    · rw [upd_ne (ne_of_none hx hpH), upd_ne (ne_of_none hx hqH)]
      exact smH5 x o (fun z => z) hx
    · rw [upd_ne npq.symm, upd_same, List.map_reverse]
theorem ok_draw {f : Addr} {fd : FuncData} {k : Nat} (F : Fun K "_law_draw" "_law_draw" sDraw f fd) (mL : mg "len" = none) : FnOk P w K mg base CX0 (k + 1) f fd ["_law_deal_here", "_law_many"] (spDraw K) := by
  refine F.ok scDraw (fun vs H Q E h => ?_) (fun cdv A outer s H vs Q E hr h => ?_)
  · obtain ⟨g, ds, F1, p, _, _, _, ⟨n, rfl, _⟩, _⟩ := h
    rw [← p.length]
    rfl
  · obtain ⟨g, ds, F1, p, f0, tr, i, ⟨n, rfl, n0, n1⟩, q⟩ := h
    obtain ⟨v1, _, rfl, p1, v2, _, rfl, p2, e⟩ := p
    have p1 : v1 = .ref g.1 := p1
    have p2 : v2 = .int n := p2
    have e : _ = [] := e
    subst p1 p2 e
    have hu := hu_of hr
    obtain ⟨dd, ll⟩ := g
    have hne : ∀ (H : Hp) (s n : Int) (l : List Int), H dd = some (.dK (dealKv s n ll)) → H ll = some (.lst (l.map V.int)) → dd ≠ ll := fun H s n l a b => ne_of a b (by intro z; cases z)
    refine ⟨_, pss_cons (ps_while PassesOwn.never (PW.pt (pw_and (pt_cmpR op_eq (pe_dget hu (pv 0) pe_str (fun _ _ => rfl)) pe_int (nomark _))
          (pw_and1 (pt_cmpR op_gt (pe_callB call_len_seq (by rfl) mL PySem.boot_len (pa_cons (pe_dget hu (pv 0) pe_str (fun _ _ => rfl)) pa_nil)) pe_int (nomark _)))))
          (pss_one (ps_dput hu (pv 0) pe_str (pe_bm0 PySem.F.plainAttrs_list PySem.F.slot_list_pop PySem.F.type_list_pop mt_pop (pe_dget hu (pv 0) pe_str (fun _ _ => rfl))) rfl)))
      (pss_cons (ps_set (i := 2) scDraw.nd rfl (Or.inl rfl) (pe_dget hu (pv 0) pe_str (fun _ _ => rfl)))
      (pss_cons (ps_if (pt_cmpR op_gt (pv 2) pe_int (nomark _)) (pss_cons (ps_dput hu (pv 0) pe_str (pe_op op_fdiv (pv 2) (pv 1)) rfl) (pss_one (ps_ret (pe_op op_mod (pv 2) (pv 1))))) pss_nil)
      (pss_cons (ps_set (i := 3) scDraw.nd rfl (Or.inl rfl) (pe_op op_mod (pe_op op_add (pe_op op_mul (pe_dget hu (pv 0) pe_str (fun _ _ => rfl)) pe_int) pe_int) pe_int))
      (pss_cons (ps_dput hu (pv 0) pe_str (pe_op op_mod (pe_op op_add (pe_op op_mul (pv 3) pe_int) pe_int) pe_int) rfl)
      (pss_cons (ps_set (i := 4) scDraw.nd rfl (Or.inl rfl) (pe_op op_mod (pe_op op_mul (pe_dget hu (pv 0) pe_str (fun _ _ => rfl)) (pe_dget hu (pv 0) pe_str (fun _ _ => rfl))) pe_int))
      (pss_one (ps_ret (pe_op op_mod (pe_op op_add (pe_op op_mul (pe_op op_mod (pe_op op_mul (pv 3) (pv 3)) pe_int) pe_int) (pv 4)) (pv 1))))))))), ?_⟩
    -- what stands between the steps
    have start : ∃ (s m : Int) (l : List Int), H dd = some (.dK (dealKv s m ll)) ∧ H ll = some (.lst (l.map V.int)) ∧ 0 ≤ s ∧ s < 2147483647 ∧ 0 ≤ m ∧ ∀ x ∈ l, (0 : Int) ≤ x := i
    obtain ⟨s0, m0, l0, hd0, hl0, hs0, hs1, hm0, hz0⟩ := start
    have J : ∀ (H' : Hp) (s m : Int) (l : List Int) (x : Int), Sm (dealS.F0 (dd, ll)) H H' → H' dd = some (.dK (dealKv s m ll)) → H' ll = some (.lst (l.map V.int)) → 0 ≤ s → s < 2147483647 → 0 ≤ m → (∀ x ∈ l, (0 : Int) ≤ x) → 0 ≤ x → x < n → Q (.int x) H' :=
      fun H' s m l x sm a b c d e f g h => q (.int x) H' (.int x) sm ⟨s, m, l, a, b, c, d, e, f⟩ rfl ⟨n, x, rfl, rfl, g, h⟩
    have up : ∀ (H' : Hp) (o : HO), Sm (dealS.F0 (dd, ll)) H H' → Sm (dealS.F0 (dd, ll)) H (upd H' dd o) := fun H' o sm a u na e => by
      rw [upd_ne fun z => na (.inl z)]
      exact sm a u na e
    have upl : ∀ (H' : Hp) (o : HO), Sm (dealS.F0 (dd, ll)) H H' → Sm (dealS.F0 (dd, ll)) H (upd H' ll o) := fun H' o sm a u na e => by
      rw [upd_ne fun z => na (.inr z)]
      exact sm a u na e
    -- the while
    refine ⟨fun mm σ H' => σ = [some (.ref dd), some (.int n), none, none, none] ∧ ∃ (s m : Int) (l : List Int), mm = l.length ∧ Sm (dealS.F0 (dd, ll)) H H' ∧ H' dd = some (.dK (dealKv s m ll)) ∧ H' ll = some (.lst (l.map V.int)) ∧ 0 ≤ s ∧ s < 2147483647 ∧ 0 ≤ m ∧ ∀ x ∈ l, (0 : Int) ≤ x,
      ⟨l0.length, rfl, s0, m0, l0, rfl, .refl, hd0, hl0, hs0, hs1, hm0, hz0⟩, ?_⟩
    rintro mm σ H' ⟨rfl, s1, m1, l1, rfl, sm, hd, hl, b0, b1, c0, z0⟩
    by_cases hT : m1 = 0 ∧ l1 ≠ []
    · obtain ⟨rfl, hn⟩ := hT
      have hlen : 0 < l1.length := List.length_pos_iff.mpr hn
      refine ⟨_, rfl, dd, _, rfl, DGet.k (k := Sum.inr "number") hd, rfl, _, rfl, ite2 (fun _ => ?_) (fun e => absurd (decide_eq_true rfl) e)⟩
      refine ⟨_, rfl, dd, _, rfl, DGet.k (k := Sum.inr "left") hd, ll, _, rfl, .inl (SqL.of hl), _, _, rfl, rfl, _, rfl, ?_⟩
      refine ite2 (fun _ => ?_) (fun e => absurd (decide_eq_true (by rw [List.length_map]; omega)) e)
      refine ⟨_, fun σ2 H2 h => h, ?_⟩
      obtain ⟨lr, lz, rfl⟩ : ∃ lr lz, l1 = lr ++ [lz] := ⟨l1.dropLast, l1.getLast hn, (List.dropLast_concat_getLast hn).symm⟩
      have hne' := hne H' s1 0 _ hd hl
      refine ⟨_, rfl, dd, _, rfl, DGet.k (k := Sum.inr "left") hd, .inl ⟨rfl, _, SqL.of hl⟩, ll, _, .int lz, rfl, rfl, hl, by simp, ?_⟩
      have hd2 : (upd H' ll (.lst ((lr ++ [lz]).map V.int).dropLast)) dd = some (.dK (dealKv s1 0 ll)) := by
        rw [upd_ne hne']
        exact hd
      refine ⟨_, rfl, dd, _, rfl, DPut.k (k := Sum.inr "number") hd2 (by show 3 < sizeLine; decide), ?_⟩
      refine ⟨lr.length, by simp, rfl, s1, lz, lr, rfl, up _ _ (upl _ _ sm), by rw [upd_same]; rfl, ?_, b0, b1, z0 lz (by simp), fun x hx => z0 x (by simp [hx])⟩
      rw [upd_ne hne'.symm, upd_same]
      simp
    · have stop : ∀ {R : Bool → Hp → Prop}, R false H' → (tAnd (tTest (tOp rEq (tDGet (tVar 0) (tC (.str "number"))) (tC (.int 0)))) (tTest (tOp (rI0 fun i j => V.bl (decide (j < i))) (tCB (fun xs H Q => ∃ p ys, xs = [.ref p] ∧ (SqL K H p ys ∨ SqT K H p ys) ∧ Q (.int ys.length) H) (tCons (tDGet (tVar 0) (tC (.str "left"))) tNil)) (tC (.int 0)))))
          [some (.ref dd), some (.int n), none, none, none] H' R := fun {R} hR => by
        refine ⟨_, rfl, dd, _, rfl, DGet.k (k := Sum.inr "number") hd, rfl, _, rfl, ite2 (fun e => ?_) (fun e => hR)⟩
        have e0 : m1 = 0 := V.int.inj (of_decide_eq_true e)
        have e1 : l1 = [] := Classical.byContradiction fun z => hT ⟨e0, z⟩
        refine ⟨_, rfl, dd, _, rfl, DGet.k (k := Sum.inr "left") hd, ll, _, rfl, .inl (SqL.of hl), _, _, rfl, rfl, _, rfl, ?_⟩
        subst e1
        exact hR
      refine stop (iteF ?_)
      -- number
      refine ⟨_, rfl, dd, _, rfl, DGet.k (k := Sum.inr "number") hd, ?_⟩
      refine ⟨_, rfl, _, _, rfl, rfl, _, rfl, ite2 (fun e => ?_) (fun e => ?_)⟩
      · have e0 : 0 < m1 := of_decide_eq_true e
        refine ⟨_, rfl, _, rfl, _, _, rfl, rfl, ⟨n0, n1⟩, _, rfl, dd, _, rfl, DPut.k (k := Sum.inr "number") hd (by show 3 < sizeLine; decide), ?_⟩
        refine ⟨_, rfl, _, rfl, _, _, rfl, rfl, n0, ?_⟩
        have hne' := hne H' s1 m1 _ hd hl
        refine J _ s1 (m1 / n) l1 _ (up _ _ sm) (by rw [upd_same]; rfl) (by rw [upd_ne hne'.symm]; exact hl) b0 b1 (Int.ediv_nonneg c0 (by omega)) z0 (Int.emod_nonneg _ (by omega)) (Int.emod_lt_of_pos _ n0)
      · -- one
        refine ⟨_, rfl, dd, _, rfl, DGet.k (k := Sum.inr "seed") hd, s1, 48271, rfl, rfl, .inl ⟨by omega, by omega⟩, _, _, rfl, rfl, _, _, rfl, rfl, (by show (0 : Int) < 2147483647; decide), ?_⟩
        dsimp only
        generalize ho : (s1 * 48271 + 7919) % 2147483647 = one
        have o0 : 0 ≤ one := by rw [← ho]; exact Int.emod_nonneg _ (by decide)
        have o1 : one < 2147483647 := by rw [← ho]; exact Int.emod_lt_of_pos _ (by decide)
        refine ⟨_, rfl, _, _, rfl, rfl, .inl ⟨by omega, by omega⟩, _, _, rfl, rfl, _, _, rfl, rfl, (by show (0 : Int) < 2147483399; decide), _, rfl, dd, _, rfl, DPut.k (k := Sum.inr "seed") hd (by show 3 < sizeLine; decide), ?_⟩
        dsimp only
        generalize hs : (one * 40692 + 104729) % 2147483399 = seed
        have q0 : 0 ≤ seed := by rw [← hs]; exact Int.emod_nonneg _ (by decide)
        have q1 : seed < 2147483399 := by rw [← hs]; exact Int.emod_lt_of_pos _ (by decide)
        have hne' := hne H' s1 m1 _ hd hl
        have hd2 : (upd H' dd (.dK (putK (dealKv s1 m1 ll) (.inr "seed") (.int seed)))) dd = some (.dK (dealKv seed m1 ll)) := by
          rw [upd_same]
          rfl
        refine ⟨_, rfl, dd, _, rfl, DGet.k (k := Sum.inr "seed") hd2, _, rfl, dd, _, rfl, DGet.k (k := Sum.inr "seed") hd2, _, _, rfl, rfl, .inl ⟨by omega, by omega⟩, _, _, rfl, rfl, (by show (0 : Int) < 2147483563; decide), ?_⟩
        refine ⟨_, rfl, _, rfl, _, _, rfl, rfl, .inl ⟨by omega, by omega⟩, _, _, rfl, rfl, (by show (0 : Int) < 2147483629; decide), _, _, rfl, rfl, .inr ⟨by decide, by decide⟩, _, rfl, _, _, rfl, rfl, _, rfl, _, _, rfl, rfl, n0, ?_⟩
        exact J _ seed m1 l1 _ (up _ _ sm) hd2 (by rw [upd_ne hne'.symm]; exact hl) q0 (by omega) c0 z0 (Int.emod_nonneg _ (by omega)) (Int.emod_lt_of_pos _ n0)
end
end Dw

namespace Dw
open PySem PySem.Spec PyProof.Rows L2
abbrev sVal : Stmt := topS 13
abbrev nVal : List Str := ["_law_deal_here", "_law_room", "_law_form", "_law_some", "_law_turn"]
theorem scVal : FnScope nVal ["_law_deal_here", "_law_room"] (defScope sVal) := ⟨rfl, rfl, rfl, by decide +kernel, rfl, by decide +kernel, by decide +kernel⟩
local macro_rules | `(tactic| walk_at "dw") => `(tactic| first
  | refine de_var rfl ?_ | refine de_int ?_ | refine de_str ?_ | refine de_bl ?_ | refine de_non ?_
  | refine de_intI ?_ | refine de_intB ?_ | refine de_intC ?_ | refine de_eq ?_ | refine de_ne ?_
  | refine da_nil ?_ | refine da_cons ?_ | refine de_max2 ?_ | refine do_none ?_ | refine do_some ?_ | refine dt_test ?_ | refine dt_B ?_ | refine dt_yes ?_
  | refine ⟨_, _, rfl, rfl, ?_⟩ | refine ⟨_, rfl, ?_⟩)
/-- how long such a value is shown -/
def valB : Nat → Nat
  | 0 => 40
  | n + 1 => 3 * (valB n + 2) + 43
def okV (n : Nat) (d : D) : Prop := D.ok n (valB n) d
theorem valB_up (n : Nat) : 40 ≤ valB n := by
  cases n with
  | zero => exact Nat.le_refl _
  | succ n =>
    show 40 ≤ 3 * (valB n + 2) + 43
    omega
theorem ok_leafI (m : Int) (h0 : 0 ≤ m) (h1 : m < 7) : D.ok 0 40 (.int (m - 3)) := by
  have c : m = 0 ∨ m = 1 ∨ m = 2 ∨ m = 3 ∨ m = 4 ∨ m = 5 ∨ m = 6 := by omega
  rcases c with rfl | rfl | rfl | rfl | rfl | rfl | rfl <;> exact ⟨by decide +kernel, by decide +kernel, by decide +kernel⟩
theorem ok_leafG (m : Int) (h0 : 0 ≤ m) (h1 : m < 9) : D.ok 0 40 (.int (10 ^ 30 + m)) := by
  have c : m = 0 ∨ m = 1 ∨ m = 2 ∨ m = 3 ∨ m = 4 ∨ m = 5 ∨ m = 6 ∨ m = 7 ∨ m = 8 := by omega
  rcases c with rfl | rfl | rfl | rfl | rfl | rfl | rfl | rfl | rfl <;> exact ⟨by decide +kernel, by decide +kernel, by decide +kernel⟩
def preVal (n : Nat) (g : Addr × Addr) (ds : List D) : Prop := ∃ m : Int, ds = [.ref g.1, .int m] ∧ 0 ≤ m ∧ m < n
def postVal (n : Nat) (_ : Addr × Addr) (_ : List D) (d : D) : Prop := okV n d
section
variable {P : Program} {w : World} {K : PySem.W.Frag} {mg : Str → Option Value} {base : Heap}
theorem ok_value {f fD : Addr} {fd fdD : FuncData} {k : Nat} (F : Fun K "_law_value" "_law_value" sVal f fd) (gF : mg "_law_value" = some (.ref f)) (bF : Binds K fd ["_law_deal_here", "_law_room"] [])
    (FD : FnOk P w K mg base CX0 k fD fdD ["_law_deal_here", "_law_many"] (spDraw K)) (gD : mg "_law_draw" = some (.ref fD)) (kD : PySem.W.keepIn K (.ref fD) = true) (bD : Binds K fdD ["_law_deal_here", "_law_many"] [])
    (mT : mg "tuple" = none) (mR : mg "range" = none) : ∀ n : Nat, FnOk P w K mg base CX0 (k + 1 + n) f fd ["_law_deal_here", "_law_room"] (SpD K dealS (preVal n) (postVal n))
  | 0 => ⟨fun vs H Q E h => by
      obtain ⟨g, ds, F1, p, _, _, _, ⟨m, rfl, h0, h1⟩, _⟩ := h
      omega, fun A outer s H args us vs Q E _ _ _ _ h => by
      obtain ⟨g, ds, F1, p, _, _, _, ⟨m, rfl, h0, h1⟩, _⟩ := h
      omega⟩
  | n + 1 => by
    have IH := ok_value F gF bF FD gD kD bD mT mR n
    refine fn_dw (S := dealS) (pre := preVal (n + 1)) (post := postVal (n + 1)) F scVal (fun g ds ⟨m, e, _⟩ => by rw [e]; rfl) fun cdv A outer s H E g ds F1 f0 tr hr pre => ?_
    obtain ⟨m, rfl, m0, m1⟩ := pre
    have FD' := FD.mono (k := k + 1 + n) (by omega)
    refine ⟨_, pss_cons (ps_set (i := 2) scVal.nd rfl (Or.inl rfl) (pe_call FD' hr (by rfl) gD kD bD .nil pass0 (pa_cons (pv 0) (pa_cons pe_int pa_nil))))
      (pss_cons (ps_if (PW.pt (pw_and (pt_cmpR op_gt (pv 2) pe_int (nomark _)) (pw_and1 (pt_cmpR op_gt (pv 1) pe_int (nomark _)))))
        (pss_one (ps_ret (pe_tupleOf (by rfl) mT (pe_lc (own := [("_law_turn", 4)]) (g := gName 4) (tt := tYes) (by rfl) scVal.nd (pi_range1 (by rfl) mR (pa_cons (pe_call FD' hr (by rfl) gD kD bD .nil pass0 (pa_cons (pv 0) (pa_cons pe_int pa_nil))) pa_nil))
          (blkOk_by (N := nVal) (sc := defScope sVal) (by decide +kernel)) (fun _ _ _ _ _ => pg_name (i := 4) scVal.nd rfl (Or.inl rfl)) (fun _ _ _ _ _ => pts_nil)
          (fun _ _ _ _ _ => pe_call IH hr (by rfl) gF F.2 bF .nil pass0 (pa_cons (pv 0) (pa_cons (pe_op op_sub (pv 1) pe_int) pa_nil))))))) pss_nil)
      (pss_cons (ps_set (i := 3) scVal.nd rfl (Or.inl rfl) (pe_lst (pa_cons (pe_op op_sub (pe_call FD' hr (by rfl) gD kD bD .nil pass0 (pa_cons (pv 0) (pa_cons pe_int pa_nil))) pe_int)
          (pa_cons (pe_op op_add (pe_op op_pow pe_int pe_int) (pe_call FD' hr (by rfl) gD kD bD .nil pass0 (pa_cons (pv 0) (pa_cons pe_int pa_nil))))
          (pa_cons (pe_ix ix_list (pe_lst (pa_cons pe_str (pa_cons pe_str (pa_cons pe_str (pa_cons pe_str pa_nil))))) (pe_call FD' hr (by rfl) gD kD bD .nil pass0 (pa_cons (pv 0) (pa_cons pe_int pa_nil))) (fun _ _ => rfl)) pa_nil)))))
      (pss_one (ps_ret (pe_ix ix_list (pe_op op_catA (pv 3) (pe_lst (pa_cons pe_non (pa_cons pe_bl (pa_cons pe_bl pa_nil))))) (pe_op op_mod (pv 2) pe_int) (fun _ _ => rfl)))))), ?_⟩
    have h0 : (mdOf K dealS g H F1 f0 tr).F0 = dealS.F0 g := rfl
    have hI : (mdOf K dealS g H F1 f0 tr).I = dealS.I g := rfl
    refine ds_seq (ds_asg (de_draw (i := 0) h0 hI rfl (by decide) (by decide) fun c c0 c1 => ?_))
    refine ds_seq (ds_ifN (dt_andN (dt_test ?_)) ?_)
    · repeat walk_at "dw"
      intro _
      refine dt_test ?_
      repeat walk_at "dw"
      intro hm
      have m2 : 0 < m := of_decide_eq_true hm
      refine ds_ret (de_thenTup (de_lcP (js := [4]) (fun _ _ y => okV n y) (fun j h => h) (di_range1 ?_)))
      refine da_cons (de_draw (i := 0) h0 hI rfl (by decide) (by decide) fun q q0 q1 => da_nil ⟨q, rfl, ⟨by omega, by omega⟩, ?_⟩)
      have hl : (rangeD 0 q.toNat).length ≤ 3 := by rw [rangeD_len]; omega
      refine ⟨Nat.lt_of_le_of_lt hl (by decide), fun O' i x hx => ?_, fun ys hy hc => ⟨ys, rfl, ?_⟩⟩
      · refine dg_name (de_call g h0 hI ?_)
        repeat walk_at "dw"
        refine ⟨⟨m - 1, rfl, by omega, by omega⟩, fun d hd => hd⟩
      · show D.ok (n + 1) (3 * (valB n + 2) + 43) (.tup ys)
        refine (ok_tup (n := n) (B := valB n) (L := 3) (fun y hy' => ?_) (by omega)).mono (Nat.le_refl _) (by omega)
        obtain ⟨i, hi⟩ := List.getElem?_of_mem hy'
        obtain ⟨x, ex⟩ : ∃ x, (rangeD 0 q.toNat)[i]? = some x := ⟨_, List.getElem?_eq_getElem (by rw [← hy]; exact (List.getElem?_eq_some_iff.mp hi).1)⟩
        exact hc i x y ex hi
    · refine ds_seq (ds_asg (de_lst ?_))
      refine da_cons (de_intI (de_draw (i := 0) h0 hI rfl (by decide) (by decide) fun a a0 a1 => ?_))
      repeat walk_at "dw"
      refine ⟨⟨by decide, by decide, by decide⟩, de_draw (i := 0) h0 hI rfl (by decide) (by decide) fun b b0 b1 => ⟨_, _, rfl, rfl, ?_⟩⟩
      refine da_cons (de_ixL (de_lst ?_))
      repeat walk_at "dw"
      refine ⟨by show 4 ≤ sizeLine; decide, de_draw (i := 0) h0 hI rfl (by decide) (by decide) fun q q0 q1 => ?_⟩
      have pick : ∃ d, atI [D.str "", D.str "a", D.str "base", D.str "no name"] q = some d ∧ D.ok 0 40 d := by
        have c : q = 0 ∨ q = 1 ∨ q = 2 ∨ q = 3 := by omega
        rcases c with rfl | rfl | rfl | rfl <;> exact ⟨_, rfl, by decide +kernel, by decide +kernel, by decide +kernel⟩
      obtain ⟨e, pe, oe⟩ := pick
      refine ⟨_, q, e, rfl, rfl, pe, da_nil ⟨by show 3 ≤ sizeLine; decide, ?_⟩⟩
      refine ds_ret (de_ixL (de_catA (de_var rfl (de_lst ?_))))
      repeat walk_at "dw"
      refine ⟨by show 3 ≤ sizeLine; decide, _, _, rfl, rfl, by show 6 ≤ sizeLine; decide, ?_⟩
      refine de_intC (C := fun x j => 0 < j) (g := fun i j => i % j) ?_
      repeat walk_at "dw"
      refine ⟨by decide, ?_⟩
      have o1 := ok_leafI a a0 a1
      have o2 := ok_leafG b b0 b1
      have last : ∃ d, atI ([D.int (a - 3), D.int (10 ^ Int.toNat 30 + b), e] ++ [D.non, D.bl true, D.bl false]) (c % 6) = some d ∧ D.ok 0 40 d := by
        have z : c % 6 = 0 ∨ c % 6 = 1 ∨ c % 6 = 2 ∨ c % 6 = 3 ∨ c % 6 = 4 ∨ c % 6 = 5 := by omega
        rcases z with z | z | z | z | z | z <;> rw [z]
        · exact ⟨_, rfl, o1⟩
        · exact ⟨_, rfl, o2⟩
        · exact ⟨_, rfl, oe⟩
        · exact ⟨_, rfl, ok_non.mono (Nat.le_refl _) (by decide)⟩
        · exact ⟨_, rfl, ok_bl.mono (Nat.le_refl _) (by decide)⟩
        · exact ⟨_, rfl, ok_bl.mono (Nat.le_refl _) (by decide)⟩
      obtain ⟨d, pd, od⟩ := last
      exact ⟨_, _, d, rfl, rfl, pd, od.mono (Nat.zero_le _) (valB_up _)⟩
end
end Dw

namespace Dw
open PySem PySem.Spec PyProof.Rows L2
abbrev sI2 : Stmt := inClass (topS 2) 0
abbrev sI3 : Stmt := inClass (topS 3) 0
abbrev sI5 : Stmt := inClass (topS 5) 0
abbrev sI6 : Stmt := inClass (topS 6) 0
abbrev sI9 : Stmt := inClass (topS 9) 0
theorem scI2 : FnScope ["self", "at"] ["self", "at"] (defScope sI2) := ⟨rfl, rfl, rfl, by decide +kernel, rfl, by decide +kernel, by decide +kernel⟩
theorem scI3 : FnScope ["self", "word", "at"] ["self", "word", "at"] (defScope sI3) := ⟨rfl, rfl, rfl, by decide +kernel, rfl, by decide +kernel, by decide +kernel⟩
theorem scI5 : FnScope ["self", "names"] ["self", "names"] (defScope sI5) := ⟨rfl, rfl, rfl, by decide +kernel, rfl, by decide +kernel, by decide +kernel⟩
theorem scI6 : FnScope ["self", "at"] ["self", "at"] (defScope sI6) := ⟨rfl, rfl, rfl, by decide +kernel, rfl, by decide +kernel, by decide +kernel⟩
theorem scI9 : FnScope ["self", "name"] ["self", "name"] (defScope sI9) := ⟨rfl, rfl, rfl, by decide +kernel, rfl, by decide +kernel, by decide +kernel⟩
section
variable {P : Program} {w : World} {K : PySem.W.Frag} {mg : Str → Option Value} {base : Heap} {f C : Addr} {fd : FuncData} {k : Nat} {B newId : String}
/-- from the body of such an __init__ to its promise -/
theorem i1_of {H : Hp} {Q : VK} {g : Str} {N : List Str} {C : Addr} {vs : List V} (T : EcC K C B newId) (no : PySem.W.findIn K (.ref C) g = some none) (h : spI1 C g vs H Q fun _ _ _ => False) (hN : N.length = 2) :
    tEst K g (tVar 0) (tVar 1) { nx := fun _ H' => Q .non H', rt := Q } (L2.start N vs) H := by
  obtain ⟨a, y, rfl, ha, q⟩ := h
  match N, hN with
  | [n1, n2], _ => exact ⟨_, rfl, _, rfl, a, C, B, newId, rfl, T, no, .inl ⟨ha, q⟩⟩
theorem ok_i2 (F : Fun K "__init__" "NoText.__init__" sI2 f fd) (T : EcC K C B newId) (no : PySem.W.findIn K (.ref C) "at" = some none) : FnOk P w K mg base CX0 (k + 1) f fd ["self", "at"] (spI1 C "at") :=
  F.ok scI2 (fun vs H Q E ⟨_, _, e, _⟩ => by rw [e]; rfl) fun cdv A outer s H vs Q E hr h => ⟨_, pss_one (ps_est (pv 0) (pv 1)), i1_of T no h rfl⟩
theorem ok_i5 (F : Fun K "__init__" "Falls.__init__" sI5 f fd) (T : EcC K C B newId) (no : PySem.W.findIn K (.ref C) "names" = some none) : FnOk P w K mg base CX0 (k + 1) f fd ["self", "names"] (spI1 C "names") :=
  F.ok scI5 (fun vs H Q E ⟨_, _, e, _⟩ => by rw [e]; rfl) fun cdv A outer s H vs Q E hr h => ⟨_, pss_one (ps_est (pv 0) (pv 1)), i1_of T no h rfl⟩
theorem ok_i6 (F : Fun K "__init__" "NoDeed.__init__" sI6 f fd) (T : EcC K C B newId) (no : PySem.W.findIn K (.ref C) "at" = some none) : FnOk P w K mg base CX0 (k + 1) f fd ["self", "at"] (spI1 C "at") :=
  F.ok scI6 (fun vs H Q E ⟨_, _, e, _⟩ => by rw [e]; rfl) fun cdv A outer s H vs Q E hr h => ⟨_, pss_one (ps_est (pv 0) (pv 1)), i1_of T no h rfl⟩
theorem ok_i9 (F : Fun K "__init__" "NoPart.__init__" sI9 f fd) (T : EcC K C B newId) (no : PySem.W.findIn K (.ref C) "name" = some none) : FnOk P w K mg base CX0 (k + 1) f fd ["self", "name"] (spI1 C "name") :=
  F.ok scI9 (fun vs H Q E ⟨_, _, e, _⟩ => by rw [e]; rfl) fun cdv A outer s H vs Q E hr h => ⟨_, pss_one (ps_est (pv 0) (pv 1)), i1_of T no h rfl⟩
theorem ok_i3 (F : Fun K "__init__" "NoPlan.__init__" sI3 f fd) (T : EcC K C B newId) (n1 : PySem.W.findIn K (.ref C) "word" = some none) (n2 : PySem.W.findIn K (.ref C) "at" = some none) : FnOk P w K mg base CX0 (k + 1) f fd ["self", "word", "at"] (spI2 C "word" "at") :=
  F.ok scI3 (fun vs H Q E ⟨_, _, _, e, _⟩ => by rw [e]; rfl) fun cdv A outer s H vs Q E hr h => ⟨_, pss_cons (ps_est (pv 0) (pv 1)) (pss_one (ps_est (pv 0) (pv 2))), by
    obtain ⟨a, y, z, rfl, ha, q⟩ := h
    exact ⟨_, rfl, _, rfl, a, C, B, newId, rfl, T, n1, .inl ⟨ha, fun dx nd ne => ⟨_, rfl, _, rfl, a, C, B, newId, rfl, T, n2, .inr ⟨dx, [("word", y)], upd_same, by rw [upd_ne ne, upd_same], (by show 1 ≤ 900; decide), q dx nd ne⟩⟩⟩⟩⟩
end
end Dw

namespace Dw
open PySem PySem.Spec PyProof.Rows L2
abbrev sCre : Stmt := topS 14
abbrev sByN : Stmt := topS 15
abbrev sAtt : Stmt := topS 16
abbrev sKin : Stmt := topS 17
abbrev nCre : List Str := ["_law_one", "_law_two", "_law_found"]
theorem scCre : FnScope nCre ["_law_one", "_law_two"] (defScope sCre) := ⟨rfl, rfl, rfl, by decide +kernel, rfl, by decide +kernel, by decide +kernel⟩
theorem scByN : FnScope nCre ["_law_one", "_law_two"] (defScope sByN) := ⟨rfl, rfl, rfl, by decide +kernel, rfl, by decide +kernel, by decide +kernel⟩
theorem scAtt : FnScope ["_law_found"] ["_law_found"] (defScope sAtt) := ⟨rfl, rfl, rfl, by decide +kernel, rfl, by decide +kernel, by decide +kernel⟩
theorem scKin : FnScope ["_law_e", "_law_found"] ["_law_e"] (defScope sKin) := ⟨rfl, rfl, rfl, by decide +kernel, rfl, by decide +kernel, by decide +kernel⟩
local macro_rules | `(tactic| walk_at "dw") => `(tactic| first
  | refine de_var rfl ?_ | refine de_int ?_ | refine de_str ?_ | refine de_bl ?_ | refine de_non ?_
  | refine de_intI ?_ | refine de_intB ?_ | refine de_intC ?_ | refine de_eq ?_ | refine de_ne ?_
  | refine da_nil ?_ | refine da_cons ?_ | refine de_max2 ?_ | refine do_none ?_ | refine do_some ?_ | refine dt_test ?_ | refine dt_B ?_ | refine dt_yes ?_
  | refine de_ex1 ?_ | refine de_ex2 ?_ | refine de_ex0 ?_ | refine de_exK1 ?_ | refine de_exK2 ?_
  | refine ⟨_, _, rfl, rfl, ?_⟩ | refine ⟨_, rfl, ?_⟩ | refine ⟨_, _, rfl, ?_⟩)
/-- a class that is made with its own __init__ -/
structure ExMk (P : Program) (w : World) (K : PySem.W.Frag) (mg : Str → Option Value) (base : Heap) (k : Nat) (x : Str) (C : Addr) (ps ks : List Str) (g : List Value → List Value) (sp : Sp) : Prop where
  ex : ∃ (fI : Addr) (fd : FuncData) (B newId initId : String) (bmB : List Value), EcC K C B newId ∧ ExcBaseFacts B newId initId bmB ∧ FnOk P w K mg base CX0 k fI fd ps sp ∧
    PySem.W.findIn K (.ref C) "__init__" = some (some (.ref fI)) ∧ PySem.W.typeIn K (.ref fI) = some (.type "function") ∧ Binds K fd ps [] ∧
    ∀ (v : Value) (ws : List Value) (s : Shared), K.In s.heap → ws.length = ks.length → BindsTo s fd ⟨[v], ks.zip ws⟩ (ps.zip (v :: g ws))
  gC : mg x = some (.ref C)
/-- one without -/
structure Ex0 (K : PySem.W.Frag) (mg : Str → Option Value) (x : Str) (C : Addr) : Prop where
  q : PySem.W.excIn K C tlV "ValueError.__new__" = true
  kC : PySem.W.keepIn K (.ref C) = true
  gC : mg x = some (.ref C)
section
variable {X : Cx} {k : Nat} {C : Addr} {ps ks : List Str} {sp : Sp} {x : Str} {p pos : Pos} {e : Expr} {es : List Expr} {kws : List Keyword} {ta tk : TA} {g : List Value → List Value}
theorem pe_mk (M : ExMk X.prog X.w X.K X.mg X.base k x C ps ks g sp) (hr : Room (k + 1) X.A) (hg : Gl X x) (ha : PA X (e :: es) ta)
    (hdb : (x == ("__debug__" : Str)) = false := by decide) (he : starEach (e :: es) X.env = (false, eval e X.env) :: starEach es X.env := by rfl) (hpl : (backTo pos (starEach es X.env)).any (·.1) = false := by rfl) :
    PE X (.Call (.Name x p) (e :: es) [] pos) (tExI C sp ta) := by
  obtain ⟨fI, fd, B, newId, initId, bmB, T, F0, F, iC, tI, hb, hk⟩ := M.ex
  exact pe_exI T F0 F hr iC tI hb hg M.gC ha hdb he hpl
theorem pe_mkK {gV : List V → List V} (M : ExMk X.prog X.w X.K X.mg X.base k x C ps ks g sp) (hr : Room (k + 1) X.A) (hrel : ∀ {zs : List V} {ws : List Value}, Vals zs ws → zs.length = ks.length → Vals (gV zs) (g ws)) (hg : Gl X x) (hkw : PK X kws tk)
    (hall : (backToKw pos (keywordEach kws X.env)).all (·.1.isSome) = true := by rfl) (hks : (backToKw pos (keywordEach kws X.env)).filterMap (·.1) = ks := by rfl) (hdb : (x == ("__debug__" : Str)) = false := by decide)
    (hpl : ((backTo pos (starEach [] X.env)).any (·.1) || (backToKw pos (keywordEach kws X.env)).any (·.1.isNone)) = false := by rfl) :
    PE X (.Call (.Name x p) [] kws pos) (tExK C ks.length sp gV tk) := by
  obtain ⟨fI, fd, B, newId, initId, bmB, T, F0, F, iC, tI, hb, hk⟩ := M.ex
  exact pe_exK T F0 F hr iC tI hk hrel hg M.gC hkw hall hks hdb hpl
theorem pe_mk0 (M : Ex0 X.K X.mg x C) (hg : Gl X x) (hdb : (x == ("__debug__" : Str)) = false := by decide) : PE X (.Call (.Name x p) [] [] pos) (fun σ H Q => ∀ a, H a = none → Q (.ref a) (upd H a (exo a C none))) :=
  pe_ex0 F.excBase_ValueError M.q M.gC M.kC hg hdb
end
/-- all the classes -/
structure Cls (P : Program) (w : World) (K : PySem.W.Frag) (mg : Str → Option Value) (base : Heap) (k : Nat) (c : List Addr) : Prop where
  m2 : ∃ C, c[0]? = some C ∧ ExMk P w K mg base k "NoText" C ["self", "at"] ["at"] id (spI1 C "at")
  m3 : ∃ C, c[1]? = some C ∧ ExMk P w K mg base k "NoPlan" C ["self", "word", "at"] ["at", "word"] List.reverse (spI2 C "word" "at")
  m4 : ∃ C, c[2]? = some C ∧ Ex0 K mg "OtherPlan" C
  m5 : ∃ C, c[3]? = some C ∧ ExMk P w K mg base k "Falls" C ["self", "names"] ["names"] id (spI1 C "names")
  m6 : ∃ C, c[4]? = some C ∧ ExMk P w K mg base k "NoDeed" C ["self", "at"] ["at"] id (spI1 C "at")
  m7 : ∃ C, c[5]? = some C ∧ Ex0 K mg "NoProp" C
  m8 : ∃ C, c[6]? = some C ∧ Ex0 K mg "NoRow" C
  m9 : ∃ C, c[7]? = some C ∧ ExMk P w K mg base k "NoPart" C ["self", "name"] ["name"] id (spI1 C "name")
/-- the eight of them -/
def made (c : List Addr) (one two : D) : List D := match c with
  | [c2, c3, c4, c5, c6, c7, c8, c9] => [.exc c2 ["at"] [one], .exc c3 ["at", "word"] [two, one], .exc c4 [] [], .exc c5 ["names"] [one], .exc c6 ["at"] [two], .exc c7 [] [], .exc c8 [] [], .exc c9 ["name"] [one]]
  | _ => []
def preCre (ds : List D) : Prop := ds.length = 2
def postCre (c : List Addr) (ds : List D) (d : D) : Prop := ∃ one two, ds = [one, two] ∧ d = .lst (made c one two)
theorem eight {c : List Addr} {P : Program} {w : World} {K : PySem.W.Frag} {mg : Str → Option Value} {base : Heap} {k : Nat} (h : c.length = 8) (T : Cls P w K mg base k c) : ∃ c2 c3 c4 c5 c6 c7 c8 c9, c = [c2, c3, c4, c5, c6, c7, c8, c9] := by
  match c, h with
  | [c2, c3, c4, c5, c6, c7, c8, c9], _ => exact ⟨c2, c3, c4, c5, c6, c7, c8, c9, rfl⟩
theorem vals_id {zs : List V} {ws : List Value} (h : Vals zs ws) : Vals (id zs) (id ws) := h
theorem vals_rev2 : ∀ {zs : List V} {ws : List Value}, Vals zs ws → Vals zs.reverse ws.reverse
  | _, _, .nil => .nil
  | _, _, .cons r t => by
    simp only [List.reverse_cons]
    exact (vals_rev2 t).append (.cons r .nil)
section
variable {P : Program} {w : World} {K : PySem.W.Frag} {mg : Str → Option Value} {base : Heap} {k : Nat} {f : Addr} {fd : FuncData}
theorem ok_cre {c2 c3 c4 c5 c6 c7 c8 c9 : Addr} (F : Fun K "_law_created" "_law_created" sCre f fd) (M2 : ExMk P w K mg base k "NoText" c2 ["self", "at"] ["at"] id (spI1 c2 "at")) (M3 : ExMk P w K mg base k "NoPlan" c3 ["self", "word", "at"] ["at", "word"] List.reverse (spI2 c3 "word" "at"))
    (M4 : Ex0 K mg "OtherPlan" c4) (M5 : ExMk P w K mg base k "Falls" c5 ["self", "names"] ["names"] id (spI1 c5 "names")) (M6 : ExMk P w K mg base k "NoDeed" c6 ["self", "at"] ["at"] id (spI1 c6 "at"))
    (M7 : Ex0 K mg "NoProp" c7) (M8 : Ex0 K mg "NoRow" c8) (M9 : ExMk P w K mg base k "NoPart" c9 ["self", "name"] ["name"] id (spI1 c9 "name")) :
    FnOk P w K mg base CX0 (k + 2) f fd ["_law_one", "_law_two"] (SpP K preCre (postCre [c2, c3, c4, c5, c6, c7, c8, c9])) := by
  refine fn_dw (S := pure0) F scCre (fun g ds e => e) fun cdv A outer s H E g ds F1 f0 tr hr pre => ?_
  obtain ⟨one, two, rfl⟩ : ∃ one two, ds = [one, two] := match ds, pre with
    | [a, b], _ => ⟨a, b, rfl⟩
  refine ⟨_, pss_cons (ps_set (i := 2) scCre.nd rfl (Or.inl rfl) (pe_lst (pa_cons (pe_mk M2 hr (by rfl) (pa_cons (pv 0) pa_nil)) (pa_cons (pe_mk M3 hr (by rfl) (pa_cons (pv 0) (pa_cons (pv 1) pa_nil))) (pa_cons (pe_mk0 M4 (by rfl))
      (pa_cons (pe_mk M5 hr (by rfl) (pa_cons (pv 0) pa_nil)) (pa_cons (pe_mk M6 hr (by rfl) (pa_cons (pv 1) pa_nil)) (pa_cons (pe_mk0 M7 (by rfl)) (pa_cons (pe_mk0 M8 (by rfl)) pa_nil)))))))))
    (pss_one (ps_ret (pe_op op_catA (pv 2) (pe_lst (pa_cons (pe_mk M9 hr (by rfl) (pa_cons (pv 0) pa_nil)) pa_nil))))), ?_⟩
  refine ds_seq (ds_asg (de_lst ?_))
  repeat walk_at "dw"
  refine ⟨by show 7 ≤ sizeLine; decide, ds_ret (de_catA (de_var rfl (de_lst ?_)))⟩
  repeat walk_at "dw"
  exact ⟨by show 1 ≤ sizeLine; decide, _, _, rfl, rfl, by show 8 ≤ sizeLine; decide, one, two, rfl, rfl⟩
theorem ok_byn {c2 c3 c4 c5 c6 c7 c8 c9 : Addr} (F : Fun K "_law_by_names" "_law_by_names" sByN f fd) (M2 : ExMk P w K mg base k "NoText" c2 ["self", "at"] ["at"] id (spI1 c2 "at")) (M3 : ExMk P w K mg base k "NoPlan" c3 ["self", "word", "at"] ["at", "word"] List.reverse (spI2 c3 "word" "at"))
    (M4 : Ex0 K mg "OtherPlan" c4) (M5 : ExMk P w K mg base k "Falls" c5 ["self", "names"] ["names"] id (spI1 c5 "names")) (M6 : ExMk P w K mg base k "NoDeed" c6 ["self", "at"] ["at"] id (spI1 c6 "at"))
    (M7 : Ex0 K mg "NoProp" c7) (M8 : Ex0 K mg "NoRow" c8) (M9 : ExMk P w K mg base k "NoPart" c9 ["self", "name"] ["name"] id (spI1 c9 "name")) :
    FnOk P w K mg base CX0 (k + 2) f fd ["_law_one", "_law_two"] (SpP K preCre (postCre [c2, c3, c4, c5, c6, c7, c8, c9])) := by
  refine fn_dw (S := pure0) F scByN (fun g ds e => e) fun cdv A outer s H E g ds F1 f0 tr hr pre => ?_
  obtain ⟨one, two, rfl⟩ : ∃ one two, ds = [one, two] := match ds, pre with
    | [a, b], _ => ⟨a, b, rfl⟩
  refine ⟨_, pss_cons (ps_set (i := 2) scByN.nd rfl (Or.inl rfl) (pe_lst (pa_cons (pe_mkK (gV := id) M2 hr (fun h _ => vals_id h) (by rfl) (pk_cons (pv 0) pk_nil)) (pa_cons (pe_mkK (gV := List.reverse) M3 hr (fun h _ => vals_rev2 h) (by rfl) (pk_cons (pv 1) (pk_cons (pv 0) pk_nil)))
      (pa_cons (pe_mk0 M4 (by rfl)) (pa_cons (pe_mkK (gV := id) M5 hr (fun h _ => vals_id h) (by rfl) (pk_cons (pv 0) pk_nil)) (pa_cons (pe_mkK (gV := id) M6 hr (fun h _ => vals_id h) (by rfl) (pk_cons (pv 1) pk_nil)) (pa_cons (pe_mk0 M7 (by rfl)) (pa_cons (pe_mk0 M8 (by rfl)) pa_nil)))))))))
    (pss_one (ps_ret (pe_op op_catA (pv 2) (pe_lst (pa_cons (pe_mkK (gV := id) M9 hr (fun h _ => vals_id h) (by rfl) (pk_cons (pv 0) pk_nil)) pa_nil))))), ?_⟩
  refine ds_seq (ds_asg (de_lst ?_))
  repeat walk_at "dw"
  refine ⟨by show 7 ≤ sizeLine; decide, ds_ret (de_catA (de_var rfl (de_lst ?_)))⟩
  repeat walk_at "dw"
  exact ⟨by show 1 ≤ sizeLine; decide, _, _, rfl, rfl, by show 8 ≤ sizeLine; decide, one, two, rfl, rfl⟩
/-- the attributes -/
def preAtt (c : List Addr) (ds : List D) : Prop := ∃ one two, ds = [.lst (made c one two)]
def postAtt (c : List Addr) (ds : List D) (d : D) : Prop := ∀ one two, ds = [.lst (made c one two)] → d = .lst [one, one, two, one, two, one]
theorem ok_att {c2 c3 c4 c5 c6 c7 c8 c9 : Addr} (F : Fun K "_law_attributes" "_law_attributes" sAtt f fd) (x2 : XfC K c2) (x3 : XfC K c3) (x5 : XfC K c5) (x6 : XfC K c6) (x9 : XfC K c9)
    (n2 : PySem.W.findIn K (.ref c2) "at" = some none) (n3 : PySem.W.findIn K (.ref c3) "word" = some none) (n3' : PySem.W.findIn K (.ref c3) "at" = some none) (n5 : PySem.W.findIn K (.ref c5) "names" = some none) (n6 : PySem.W.findIn K (.ref c6) "at" = some none) (n9 : PySem.W.findIn K (.ref c9) "name" = some none) :
    FnOk P w K mg base CX0 (k + 1) f fd ["_law_found"] (SpP K (preAtt [c2, c3, c4, c5, c6, c7, c8, c9]) (postAtt [c2, c3, c4, c5, c6, c7, c8, c9])) := by
  refine fn_dw (S := pure0) F scAtt (fun g ds ⟨_, _, e⟩ => by rw [e]; rfl) fun cdv A outer s H E g ds F1 f0 tr hr pre => ?_
  obtain ⟨one, two, rfl⟩ := pre
  refine ⟨_, pss_one (ps_ret (pe_lst (pa_cons (pe_exF (pe_ix ix_list (pv 0) pe_int (fun _ _ => rfl))) (pa_cons (pe_exF (pe_ix ix_list (pv 0) pe_int (fun _ _ => rfl))) (pa_cons (pe_exF (pe_ix ix_list (pv 0) pe_int (fun _ _ => rfl)))
    (pa_cons (pe_exF (pe_ix ix_list (pv 0) pe_int (fun _ _ => rfl))) (pa_cons (pe_exF (pe_ix ix_list (pv 0) pe_int (fun _ _ => rfl))) (pa_cons (pe_exF (pe_ix ix_list (pv 0) pe_int (fun _ _ => rfl))) pa_nil)))))))), ?_⟩
  refine ds_ret (de_lst ?_)
  refine da_cons (de_exF (de_ixL (de_var rfl (de_int ⟨_, _, _, rfl, rfl, rfl, c2, ["at"], [one], one, rfl, x2, n2, rfl, ?_⟩))))
  refine da_cons (de_exF (de_ixL (de_var rfl (de_int ⟨_, _, _, rfl, rfl, rfl, c3, ["at", "word"], [two, one], one, rfl, x3, n3, rfl, ?_⟩))))
  refine da_cons (de_exF (de_ixL (de_var rfl (de_int ⟨_, _, _, rfl, rfl, rfl, c3, ["at", "word"], [two, one], two, rfl, x3, n3', rfl, ?_⟩))))
  refine da_cons (de_exF (de_ixL (de_var rfl (de_int ⟨_, _, _, rfl, rfl, rfl, c5, ["names"], [one], one, rfl, x5, n5, rfl, ?_⟩))))
  refine da_cons (de_exF (de_ixL (de_var rfl (de_int ⟨_, _, _, rfl, rfl, rfl, c6, ["at"], [two], two, rfl, x6, n6, rfl, ?_⟩))))
  refine da_cons (de_exF (de_ixL (de_var rfl (de_int ⟨_, _, _, rfl, rfl, rfl, c9, ["name"], [one], one, rfl, x9, n9, rfl, ?_⟩))))
  refine da_nil ⟨by show 6 ≤ sizeLine; decide, fun a b e => ?_⟩
  cases e
  rfl
end
end Dw

namespace Dw
open PySem PySem.Spec PyProof.Rows L2
local macro_rules | `(tactic| walk_at "dw") => `(tactic| first
  | refine de_var rfl ?_ | refine de_int ?_ | refine de_str ?_ | refine de_bl ?_ | refine de_non ?_
  | refine de_intI ?_ | refine de_intB ?_ | refine de_intC ?_ | refine de_eq ?_ | refine de_ne ?_
  | refine da_nil ?_ | refine da_cons ?_ | refine de_max2 ?_ | refine do_none ?_ | refine do_some ?_ | refine dt_test ?_ | refine dt_B ?_ | refine dt_yes ?_
  | refine ⟨_, _, rfl, rfl, ?_⟩ | refine ⟨_, rfl, ?_⟩ | refine ⟨_, _, rfl, ?_⟩)
/-- what isinstance finds of the eight -/
structure Kit (K : PySem.W.Frag) (c : List Addr) : Prop where
  is : ∀ C ∈ c, IsX K C
  one : ∀ (i j : Nat) (C C' : Addr), c[i]? = some C → c[j]? = some C' → PySem.W.kitOne K (.ref C) (.ref C') = some (decide (i = j))
def preKin (c : List Addr) (ds : List D) : Prop := ∃ (i : Nat) (C : Addr) (ns : List Str) (fs : List D), c[i]? = some C ∧ ds = [.exc C ns fs]
def postKin (c : List Addr) (ds : List D) (d : D) : Prop := ∃ (i : Nat) (C : Addr) (ns : List Str) (fs : List D), c[i]? = some C ∧ ds = [.exc C ns fs] ∧ d = .lst ((List.range 8).map fun j => .bl (decide (i = j)))
section
variable {P : Program} {w : World} {K : PySem.W.Frag} {mg : Str → Option Value} {base : Heap} {k : Nat} {f : Addr} {fd : FuncData}
theorem de_is8 {M : Md} {O : List Addr} {r : List Sl} {q : D → Prop} {c : List Addr} {i j s : Nat} {C C' : Addr} {ns : List Str} {fs : List D} (T : Kit M.K c) (hi : c[i]? = some C) (hj : c[j]? = some C') (hs : r[s]? = some (.d (.exc C ns fs))) (h : q (.bl (decide (i = j)))) :
    De M (tCB (rIsX M.K) (tCons (tVar s) (tCons (tC (.ref C')) tNil))) O r q :=
  de_isX (.own C') (de_var hs ⟨C, ns, fs, _, rfl, T.is C (List.mem_of_getElem? hi), T.one i j C C' hi hj, h⟩)
theorem ok_kin {c2 c3 c4 c5 c6 c7 c8 c9 : Addr} (F : Fun K "_law_kinds" "_law_kinds" sKin f fd) (T : Kit K [c2, c3, c4, c5, c6, c7, c8, c9]) (mI : mg "isinstance" = none)
    (g2 : mg "NoText" = some (.ref c2)) (g3 : mg "NoPlan" = some (.ref c3)) (g4 : mg "OtherPlan" = some (.ref c4)) (g5 : mg "Falls" = some (.ref c5)) (g6 : mg "NoDeed" = some (.ref c6)) (g7 : mg "NoProp" = some (.ref c7)) (g8 : mg "NoRow" = some (.ref c8)) (g9 : mg "NoPart" = some (.ref c9)) :
    FnOk P w K mg base CX0 (k + 1) f fd ["_law_e"] (SpP K (preKin [c2, c3, c4, c5, c6, c7, c8, c9]) (postKin [c2, c3, c4, c5, c6, c7, c8, c9])) := by
  refine fn_dw (S := pure0) F scKin (fun g ds ⟨_, _, _, _, _, e⟩ => by rw [e]; rfl) fun cdv A outer s H E g ds F1 f0 tr hr pre => ?_
  obtain ⟨i, C, ns, fs, hi, rfl⟩ := pre
  refine ⟨_, pss_cons (ps_set (i := 1) scKin.nd rfl (Or.inl rfl) (pe_lst (pa_cons (pe_callB call_isX (by rfl) mI PyProof.Rows.boot_isinstance (pa_cons (pv 0) (pa_cons (pe_glob (v := .ref c2) (by rfl) g2 rfl) pa_nil)))
      (pa_cons (pe_callB call_isX (by rfl) mI PyProof.Rows.boot_isinstance (pa_cons (pv 0) (pa_cons (pe_glob (v := .ref c3) (by rfl) g3 rfl) pa_nil))) (pa_cons (pe_callB call_isX (by rfl) mI PyProof.Rows.boot_isinstance (pa_cons (pv 0) (pa_cons (pe_glob (v := .ref c4) (by rfl) g4 rfl) pa_nil)))
      (pa_cons (pe_callB call_isX (by rfl) mI PyProof.Rows.boot_isinstance (pa_cons (pv 0) (pa_cons (pe_glob (v := .ref c5) (by rfl) g5 rfl) pa_nil))) pa_nil))))))
    (pss_cons (ps_set (i := 1) scKin.nd rfl (Or.inl rfl) (pe_op op_catA (pv 1) (pe_lst (pa_cons (pe_callB call_isX (by rfl) mI PyProof.Rows.boot_isinstance (pa_cons (pv 0) (pa_cons (pe_glob (v := .ref c6) (by rfl) g6 rfl) pa_nil)))
      (pa_cons (pe_callB call_isX (by rfl) mI PyProof.Rows.boot_isinstance (pa_cons (pv 0) (pa_cons (pe_glob (v := .ref c7) (by rfl) g7 rfl) pa_nil))) (pa_cons (pe_callB call_isX (by rfl) mI PyProof.Rows.boot_isinstance (pa_cons (pv 0) (pa_cons (pe_glob (v := .ref c8) (by rfl) g8 rfl) pa_nil))) pa_nil))))))
    (pss_one (ps_ret (pe_op op_catA (pv 1) (pe_lst (pa_cons (pe_callB call_isX (by rfl) mI PyProof.Rows.boot_isinstance (pa_cons (pv 0) (pa_cons (pe_glob (v := .ref c9) (by rfl) g9 rfl) pa_nil))) pa_nil)))))), ?_⟩
  refine ds_seq (ds_asg (de_lst (da_cons (de_is8 (j := 0) T hi rfl rfl (da_cons (de_is8 (j := 1) T hi rfl rfl (da_cons (de_is8 (j := 2) T hi rfl rfl (da_cons (de_is8 (j := 3) T hi rfl rfl (da_nil ?_)))))))))))
  refine ⟨by show 4 ≤ sizeLine; decide, ds_seq (ds_asg (de_catA (de_var rfl (de_lst (da_cons (de_is8 (j := 4) T hi rfl rfl (da_cons (de_is8 (j := 5) T hi rfl rfl (da_cons (de_is8 (j := 6) T hi rfl rfl (da_nil ?_)))))))))))⟩
  refine ⟨by show 3 ≤ sizeLine; decide, _, _, rfl, rfl, by show 7 ≤ sizeLine; decide, ds_ret (de_catA (de_var rfl (de_lst (da_cons (de_is8 (j := 7) T hi rfl rfl (da_nil ?_))))))⟩
  exact ⟨by show 1 ≤ sizeLine; decide, _, _, rfl, rfl, by show 8 ≤ sizeLine; decide, i, C, ns, fs, hi, rfl, rfl⟩
end
end Dw

namespace Dw
open PySem PySem.Spec PyProof.Rows L2
local macro_rules | `(tactic| walk_at "dw") => `(tactic| first
  | refine de_var rfl ?_ | refine de_int ?_ | refine de_str ?_ | refine de_bl ?_ | refine de_non ?_
  | refine de_intI ?_ | refine de_intB ?_ | refine de_intC ?_ | refine de_eq ?_ | refine de_ne ?_
  | refine da_nil ?_ | refine da_cons ?_ | refine de_max2 ?_ | refine do_none ?_ | refine do_some ?_ | refine dt_test ?_ | refine dt_B ?_ | refine dt_yes ?_
  | refine ⟨_, _, rfl, rfl, ?_⟩ | refine ⟨_, rfl, ?_⟩ | refine ⟨_, _, rfl, ?_⟩)
abbrev sLaw : Stmt := topS 18
abbrev nLaw : List Str := ["_law_script", "_law_deal_here", "_law_turn", "_law_one", "_law_two", "_law_found", "_law_number", "_law_e", "_law_above", "_law_spot"]
theorem scLaw : FnScope nLaw ["_law_script"] (defScope sLaw) := ⟨rfl, rfl, rfl, by decide +kernel, rfl, by decide +kernel, by decide +kernel⟩
def spLaw (K : PySem.W.Frag) : Sp := fun vs H Q _ => ∃ (a : Addr) (ns : List Int), vs = [.ref a] ∧ SqL K H a (ns.map V.int) ∧ ns.length ≤ 63 ∧ ∀ H', Q (.bl true) H'
structure Kit2 (K : PySem.W.Frag) (c : List Addr) (c1 : Addr) : Prop extends Kit K c where
  yard : ∀ (i : Nat) (C : Addr), c[i]? = some C → PySem.W.kitOne K (.ref C) (.ref c1) = some (decide (i < 7))
  val : ∀ (i : Nat) (C : Addr), c[i]? = some C → PySem.W.kitOne K (.ref C) (.type "ValueError") = some (decide (i < 7))
  key : ∀ (i : Nat) (C : Addr), c[i]? = some C → PySem.W.kitOne K (.ref C) (.type "KeyError") = some (decide (i = 7))
theorem ds_par {M : Md} {O : List Addr} {r : List Sl} {E : Kn} {ta : TA} {i j : Nat} (h : DA M ta O r fun ds => ∃ d e, ds = [d, e] ∧ E.nx O ((r.set i (.d d)).set j (.d e))) : DS M (tPar i j ta) O r E := fun σ H Z R z =>
  h σ H _ R fun vs H1 ds R1 e1 p1 q => by
    obtain ⟨d, e, rfl, q⟩ := q
    obtain ⟨v, t, rfl, p2, u, t2, rfl, p3, p4⟩ := p1
    obtain rfl : t2 = [] := p4
    exact ⟨v, u, rfl, z.nx O _ _ H1 ((R1.set (s := .d d) ⟨v, rfl, p2⟩ (fun p xs e => nomatch e)).set (s := .d e) ⟨u, rfl, p3⟩ (fun p xs e => nomatch e)) (R1.stp e1) q⟩
theorem made_get {c : List Addr} {one two e : D} {i : Nat} (h8 : c.length = 8) (h : (made c one two)[i]? = some e) : ∃ C ns fs, e = .exc C ns fs ∧ c[i]? = some C ∧ i < 8 := by
  match c, h8 with
  | [c2, c3, c4, c5, c6, c7, c8, c9], _ =>
    have hi : i < 8 := (List.getElem?_eq_some_iff.mp h).1
    have z : i = 0 ∨ i = 1 ∨ i = 2 ∨ i = 3 ∨ i = 4 ∨ i = 5 ∨ i = 6 ∨ i = 7 := by omega
    rcases z with rfl | rfl | rfl | rfl | rfl | rfl | rfl | rfl <;> (cases h; exact ⟨_, _, _, rfl, rfl, by decide⟩)
theorem eqv3 (a b : Bool) : PyData.eqv (D.lst [.bl a, .bl a, .bl b]).py (D.lst [.bl a, .bl a, .bl b]).py = true := by
  cases a <;> cases b <;> rfl
theorem eqv8 {i : Nat} (hi : i < 8) : PyData.eqv (D.lst ((List.range 8).map fun j => D.bl (decide (i = j)))).py (D.lst ((List.range 8).map fun j => D.bl (decide (i = j)))).py = true := by
  have z : i = 0 ∨ i = 1 ∨ i = 2 ∨ i = 3 ∨ i = 4 ∨ i = 5 ∨ i = 6 ∨ i = 7 := by omega
  rcases z with rfl | rfl | rfl | rfl | rfl | rfl | rfl | rfl <;> rfl
theorem flat3 (a b c : Bool) : (D.lst [.bl a, .bl b, .bl c]).pl = true ∧ (D.lst [.bl a, .bl b, .bl c]).py.depth ≤ 64 := ⟨rfl, Nat.le_of_ble_eq_true rfl⟩
theorem flat8 (i : Nat) : (D.lst ((List.range 8).map fun j => D.bl (decide (i = j)))).pl = true ∧ (D.lst ((List.range 8).map fun j => D.bl (decide (i = j)))).py.depth ≤ 64 := ⟨rfl, Nat.le_of_ble_eq_true rfl⟩
theorem int_is (i j : Nat) : decide (V.int (i : Int) = V.int (j : Int)) = decide (i = j) := decide_eq_decide.mpr ⟨fun h => by
  have := V.int.inj h
  omega, fun h => by rw [h]⟩
theorem spots {i : Nat} {ys : List D} (hl : ys.length = 8) (h : ∀ (j : Nat) y, j < 8 → ys[j]? = some y → y = .bl (decide (i = j))) : ys = (List.range 8).map fun j => D.bl (decide (i = j)) := by
  refine List.ext_getElem? fun j => ?_
  by_cases hj : j < 8
  · rw [List.getElem?_map, List.getElem?_range hj, List.getElem?_eq_getElem (by omega)]
    exact congrArg some (h j _ hj (List.getElem?_eq_getElem (by omega)))
  · rw [List.getElem?_eq_none (by omega), List.getElem?_eq_none (by rw [List.length_map, List.length_range]; omega)]
section
variable {P : Program} {w : World} {K : PySem.W.Frag} {mg : Str → Option Value} {base : Heap} {k : Nat} {f : Addr} {fd : FuncData}
variable {fDe fVa fCr fBy fAt fKi : Addr} {dDe dVa dCr dBy dAt dKi : FuncData}
theorem ok_law {c : List Addr} {c1 : Addr} (F : Fun K "law" "law" sLaw f fd)
    (GDe : FnOk P w K mg base CX0 k fDe dDe ["_law_script", "_law_base"] (spDeal K)) (mDe : mg "_law_deal" = some (.ref fDe)) (kDe : PySem.W.keepIn K (.ref fDe) = true) (bDe : Binds K dDe ["_law_script", "_law_base"] [])
    (GVa : FnOk P w K mg base CX0 k fVa dVa ["_law_deal_here", "_law_room"] (SpD K dealS (preVal 4) (postVal 4))) (mVa : mg "_law_value" = some (.ref fVa)) (kVa : PySem.W.keepIn K (.ref fVa) = true) (bVa : Binds K dVa ["_law_deal_here", "_law_room"] [])
    (GCr : FnOk P w K mg base CX0 k fCr dCr ["_law_one", "_law_two"] (SpP K preCre (postCre c))) (mCr : mg "_law_created" = some (.ref fCr)) (kCr : PySem.W.keepIn K (.ref fCr) = true) (bCr : Binds K dCr ["_law_one", "_law_two"] [])
    (GBy : FnOk P w K mg base CX0 k fBy dBy ["_law_one", "_law_two"] (SpP K preCre (postCre c))) (mBy : mg "_law_by_names" = some (.ref fBy)) (kBy : PySem.W.keepIn K (.ref fBy) = true) (bBy : Binds K dBy ["_law_one", "_law_two"] [])
    (GAt : FnOk P w K mg base CX0 k fAt dAt ["_law_found"] (SpP K (preAtt c) (postAtt c))) (mAt : mg "_law_attributes" = some (.ref fAt)) (kAt : PySem.W.keepIn K (.ref fAt) = true) (bAt : Binds K dAt ["_law_found"] [])
    (GKi : FnOk P w K mg base CX0 k fKi dKi ["_law_e"] (SpP K (preKin c) (postKin c))) (mKi : mg "_law_kinds" = some (.ref fKi)) (kKi : PySem.W.keepIn K (.ref fKi) = true) (bKi : Binds K dKi ["_law_e"] [])
    (T : Kit2 K c c1) (g1 : mg "YardError" = some (.ref c1)) (mR : mg "range" = none) (mL : mg "len" = none) (mP : mg "repr" = none) (mE : mg "enumerate" = none) (mI : mg "isinstance" = none) (mV : mg "ValueError" = none) (mK : mg "KeyError" = none) (h8 : c.length = 8) :
    FnG P w K mg base (k + 1) f fd ["_law_script"] (spLaw K) := by
  refine fng_of F scLaw (fun vs H Q E ⟨a, ns, e, _⟩ => by rw [e]; rfl) fun cdv A outer s H vs Q E hg hr h => ?_
  obtain ⟨a, ns, rfl, hS, hlen, q⟩ := h
  have hu := hr.units
  refine ⟨_, (pss_cons (ps_set (i := 1) scLaw.nd rfl (Or.inl rfl) (pe_call GDe hr (by rfl) mDe kDe bDe .nil pass0 (pa_cons (pv 0) (pa_cons pe_int pa_nil)))) (pss_cons (ps_for PassesOwn.never rfl (pi_range1 (by rfl) mR (pa_cons (pe_op op_add pe_int (pe_callB call_len_seq (by rfl) mL PySem.boot_len (pa_cons (pe_slice sl_list (pv 0) po_none (po_some pe_int)) pa_nil))) pa_nil)) (pg_name (i := 2) scLaw.nd rfl (Or.inl rfl)) (pss_cons (ps_par (i := 3) (j := 4) rfl scLaw.nd rfl rfl (by decide) rfl rfl (pa_cons (pe_call GVa hr (by rfl) mVa kVa bVa .nil pass0 (pa_cons (pv 1) (pa_cons pe_int pa_nil))) (pa_cons (pe_call GVa hr (by rfl) mVa kVa bVa .nil pass0 (pa_cons (pv 1) (pa_cons pe_int pa_nil))) pa_nil)) (by rfl)) (pss_one (ps_for PassesOwn.never rfl (pi_tup (pe_tup (pa_cons (pe_call GCr hr (by rfl) mCr kCr bCr .nil pass0 (pa_cons (pv 3) (pa_cons (pv 4) pa_nil))) (pa_cons (pe_call GBy hr (by rfl) mBy kBy bBy .nil pass0 (pa_cons (pv 3) (pa_cons (pv 4) pa_nil))) pa_nil)))) (pg_name (i := 5) scLaw.nd rfl (Or.inl rfl)) (pss_cons (ps_if (pt_cmpR op_ne (pe_callB (call_reprD hg hu) (by rfl) mP PyProof.Rows.boot_repr (pa_cons (pe_call GAt hr (by rfl) mAt kAt bAt .nil pass0 (pa_cons (pv 5) pa_nil)) pa_nil)) (pe_callB (call_reprD hg hu) (by rfl) mP PyProof.Rows.boot_repr (pa_cons (pe_lst (pa_cons (pv 3) (pa_cons (pv 3) (pa_cons (pv 4) (pa_cons (pv 3) (pa_cons (pv 4) (pa_cons (pv 3) pa_nil))))))) pa_nil)) (nomark _)) (pss_one (ps_ret pe_bl)) pss_nil) (pss_one (ps_for PassesOwn.never rfl (pi_enum (by rfl) mE (pa_cons (pv 5) pa_nil)) (pg_tup rfl (pgs_cons (pg_name (i := 6) scLaw.nd rfl (Or.inr rfl)) (pgs_cons (pg_name (i := 7) scLaw.nd rfl (Or.inl rfl)) pgs_nil))) (pss_cons (ps_set (i := 8) scLaw.nd rfl (Or.inl rfl) (pe_lst (pa_cons (pe_callB call_isX (by rfl) mI PyProof.Rows.boot_isinstance (pa_cons (pv 7) (pa_cons (pe_glob (v := .ref c1) (by rfl) g1 rfl) pa_nil))) (pa_cons (pe_callB call_isX (by rfl) mI PyProof.Rows.boot_isinstance (pa_cons (pv 7) (pa_cons (pe_bltn (v := .ty "ValueError") (by rfl) mV (by decide +kernel) rfl) pa_nil))) (pa_cons (pe_callB call_isX (by rfl) mI PyProof.Rows.boot_isinstance (pa_cons (pv 7) (pa_cons (pe_bltn (v := .ty "KeyError") (by rfl) mK (by decide +kernel) rfl) pa_nil))) pa_nil))))) (pss_cons (ps_if (pt_cmpR (op_neD hu) (pv 8) (pe_lst (pa_cons (pe_cmpR op_lt (pv 6) pe_int (nomark _)) (pa_cons (pe_cmpR op_lt (pv 6) pe_int (nomark _)) (pa_cons (pe_cmpR op_eq (pv 6) pe_int (nomark _)) pa_nil)))) (nomark _)) (pss_one (ps_ret pe_bl)) pss_nil) (pss_one (ps_if (pt_cmpR (op_neD hu) (pe_call GKi hr (by rfl) mKi kKi bKi .nil pass0 (pa_cons (pv 7) pa_nil)) (pe_lc (own := [("_law_spot", 9)]) (g := gName 9) (tt := tYes) (by rfl) scLaw.nd (pi_range1 (by rfl) mR (pa_cons pe_int pa_nil)) (blkOk_by (N := nLaw) (sc := defScope sLaw) (by decide +kernel)) (fun _ _ _ _ _ => (pg_name (i := 9) scLaw.nd rfl (Or.inl rfl))) (fun _ _ _ _ _ => pts_nil) (fun _ _ _ _ _ => (pe_cmpR op_eq (pv 6) (pv 9) (nomark _)))) (nomark _)) (pss_one (ps_ret pe_bl)) pss_nil))))))))))) (pss_one (ps_ret pe_bl)))), ?_⟩
  refine ⟨_, rfl, a, ns, 0, rfl, hS, hlen, Int.le_refl _, by decide, fun g H1 n1 n2 sm hD => ?_⟩
  have f0 : ∀ x, dealS.F0 g x → x = g.1 ∨ x = g.2 := fun x h => h
  have tr : ∀ x, (x = g.1 ∨ x = g.2) → H1 x ≠ none := fun x h => dealS.tk g H1 x hD h
  have pa : RepL K (fun x => x = g.1 ∨ x = g.2) H1 [.lst (ns.map D.int)] [.ref a] := by
    have l0 : LAt K (fun x => x = g.1 ∨ x = g.2) H a (ns.map V.int) := (lat_of hS).gen fun x hx => .inr (by
      rcases hx with rfl | rfl
      · exact n1
      · exact n2)
    exact .one ⟨a, _, rfl, l0.mono (fun x o _ e => sm x o e), repL_of_ints ns⟩
  have R0 := (start_rp (M := mdOf K dealS g H1 _ f0 tr) (N := nLaw) pa hD).set (i := 1) (v := .ref g.1) (s := .d (.ref g.1)) ⟨_, rfl, rfl⟩ (fun p xs e => nomatch e)
  dsimp only [gName]
  refine (?_ : DS (mdOf K dealS g H1 _ f0 tr) _ [] ((startR nLaw.length [.lst (ns.map D.int)]).set 1 (.d (.ref g.1))) { nx := fun _ _ => False, rt := fun d => d = .bl true }) _ H1 _ R0 ⟨fun _ _ _ _ _ _ z => z.elim, fun v H2 d _ _ p e => by
    subst e
    obtain rfl : v = .bl true := p
    exact q _, fun _ _ _ _ _ _ z => z.elim, fun _ _ _ _ _ _ z => z.elim⟩
  have h0 : (mdOf K dealS g H1 (fun x => x = g.1 ∨ x = g.2) f0 tr).F0 = dealS.F0 g := rfl
  have hI : (mdOf K dealS g H1 (fun x => x = g.1 ∨ x = g.2) f0 tr).I = dealS.I g := rfl
  refine ds_seq (ds_for (js := [2]) (di_range1 (da_cons (de_intI (de_int (de_len (de_slL (de_var rfl ⟨_, rfl, do_none (do_some (de_int ⟨_, rfl, ?_⟩))⟩))))))))
  have hc : (cutD (ns.map D.int) none (some 2)).length ≤ 63 := Nat.le_trans (cutD_len _ _ _) (by rw [List.length_map]; exact hlen)
  refine ⟨_, .inl rfl, _, _, rfl, rfl, da_nil ⟨_, rfl, ⟨by omega, by omega⟩, fun _ O r => O = [] ∧ ∃ s2 s3 s4 s5 s6 s7 s8 s9 : Sl, r = [.d (.lst (ns.map D.int)), .d (.ref g.1), s2, s3, s4, s5, s6, s7, s8, s9],
    ⟨rfl, .un, .un, .un, .un, .un, .un, .un, .un, rfl⟩, fun turn x O' r' hx hv => ?_, fun O' r' hv => ds_ret (de_bl rfl)⟩⟩
  obtain ⟨rfl, s2, s3, s4, s5, s6, s7, s8, s9, rfl⟩ := hv
  refine dg_name (ds_seq (ds_par ?_))
  refine da_cons (de_call g h0 hI (da_cons (de_var rfl (da_cons (de_int (da_nil ⟨⟨3, rfl, by decide, by decide⟩, fun one ho => ?_⟩))))))
  refine da_cons (de_call g h0 hI (da_cons (de_var rfl (da_cons (de_int (da_nil ⟨⟨3, rfl, by decide, by decide⟩, fun two ht => ?_⟩))))))
  refine da_nil ⟨one, two, rfl, ?_⟩
  refine ds_for (js := [5]) (di_tup (de_tup (da_cons (de_callP (da_cons (de_var rfl (da_cons (de_var rfl (da_nil ⟨rfl, fun d1 hd1 => ?_⟩)))))))))
  refine da_cons (de_callP (da_cons (de_var rfl (da_cons (de_var rfl (da_nil ⟨rfl, fun d2 hd2 => da_nil ⟨by show 2 ≤ sizeLine; decide, _, rfl, ?_⟩⟩))))))
  obtain ⟨o1, t1, e1, rfl⟩ := hd1
  cases e1
  obtain ⟨o2, t2, e2, rfl⟩ := hd2
  cases e2
  refine ⟨fun _ O r => O = [] ∧ ∃ s5 s6 s7 s8 s9 : Sl, r = [.d (.lst (ns.map D.int)), .d (.ref g.1), .d x, .d one, .d two, s5, s6, s7, s8, s9], ⟨rfl, _, _, _, _, _, rfl⟩, fun j y O2 r2 hy hv => ?_, fun O2 r2 hv => ?_⟩
  · obtain ⟨rfl, s5, s6, s7, s8, s9, rfl⟩ := hv
    obtain rfl : y = .lst (made c one two) := by
      match j, hy with
      | 0, hy => exact (Option.some.inj hy).symm
      | 1, hy => exact (Option.some.inj hy).symm
      | n + 2, hy => cases hy
    refine dg_name (ds_seq (ds_ifN (dt_test (de_ne (de_repr (de_callP (da_cons (de_var rfl (da_nil ⟨⟨one, two, rfl⟩, fun d hd => ?_⟩))))))) ?_))
    · obtain rfl := hd one two rfl
      have hk : D.ok 5 (6 * (valB 4 + 2) + 3) (D.lst [one, one, two, one, two, one]) := by
        refine ok_lst (n := 4) (B := valB 4) (L := 6) (fun z hz => ?_) (by show 6 ≤ 6; decide)
        have ho' : D.ok 4 (valB 4) one := ho
        have ht' : D.ok 4 (valB 4) two := ht
        simp only [List.mem_cons, List.not_mem_nil, or_false] at hz
        rcases hz with rfl | rfl | rfl | rfl | rfl | rfl <;> assumption
      refine ⟨5, _, hk, by decide, by decide, de_repr (de_lst ?_)⟩
      repeat walk_at "dw"
      refine ⟨by show 6 ≤ sizeLine; decide, 5, _, hk, by decide, by decide, _, _, rfl, rfl, rfl, _, rfl, fun z => ?_⟩
      simp at z
    · refine ds_for (js := [6, 7]) (di_enum (da_cons (de_var rfl (da_nil ⟨_, rfl, ?_⟩))))
      refine ⟨fun _ O r => O = [] ∧ ∃ s6 s7 s8 s9 : Sl, r = [.d (.lst (ns.map D.int)), .d (.ref g.1), .d x, .d one, .d two, .d (.lst (made c one two)), s6, s7, s8, s9], ⟨rfl, _, _, _, _, rfl⟩, fun i y O3 r3 hy hv => ?_, fun O3 r3 hv => ?_⟩
      · obtain ⟨rfl, s6, s7, s8, s9, rfl⟩ := hv
        obtain ⟨e, he, rfl⟩ := enumD_get hy
        obtain ⟨C, fn, fs, rfl, hC, hi⟩ := made_get h8 he
        have isC := T.is C (List.mem_of_getElem? hC)
        refine dg_tup rfl (dgs_cons (dg_name (dgs_cons (dg_name (dgs_nil ?_)))))
        refine ds_seq (ds_asg (de_lst ?_))
        refine da_cons (de_isX (.own c1) (de_var rfl ⟨C, fn, fs, _, rfl, isC, T.yard i C hC, ?_⟩))
        refine da_cons (de_isX (.ty "ValueError") (de_var rfl ⟨C, fn, fs, _, rfl, isC, T.val i C hC, ?_⟩))
        refine da_cons (de_isX (.ty "KeyError") (de_var rfl ⟨C, fn, fs, _, rfl, isC, T.key i C hC, ?_⟩))
        refine da_nil ⟨by show 3 ≤ sizeLine; decide, ds_seq (ds_ifN (dt_test (de_neD (de_var rfl (de_lst ?_)))) ?_)⟩
        · repeat walk_at "dw"
          have e1 : decide ((i : Int) < 7) = decide (i < 7) := decide_eq_decide.mpr (by omega)
          refine ⟨rfl, da_nil ⟨by show 3 ≤ sizeLine; decide, ?_⟩⟩
          rw [e1, show decide (V.int (i : Int) = V.int 7) = decide (i = 7) from int_is i 7, eqv3]
          exact ⟨flat3 _ _ _, flat3 _ _ _, _, rfl, fun z => nomatch z⟩
        · refine ds_ifN (dt_test (de_neD (de_callP (da_cons (de_var rfl (da_nil ⟨⟨i, C, fn, fs, hC, rfl⟩, fun d hd => ?_⟩)))))) ⟨rfl, _, _, _, _, rfl⟩
          obtain ⟨i2, C2, fn2, fs2, hC2, ed, rfl⟩ := hd
          cases ed
          obtain rfl : i = i2 := by
            have a1 := T.one i i2 C C hC hC2
            rw [T.one i i C C hC hC] at a1
            exact of_decide_eq_true ((Option.some.inj a1).symm.trans (decide_eq_true rfl))
          refine de_lcP (js := [9]) (fun j _ y => y = .bl (decide (i = j))) (fun j h => h) (di_range1 (da_cons (de_int (da_nil ⟨8, rfl, ⟨by decide, by decide⟩, ?_⟩))))
          refine ⟨by rw [rangeD_len]; decide, fun O4 j z hz => ?_, fun ys hl hy => ?_⟩
          · obtain ⟨_, rfl⟩ := rangeD_get hz
            refine dg_name ?_
            repeat walk_at "dw"
            refine ⟨rfl, ?_⟩
            rw [Int.zero_add, int_is]
          · rw [rangeD_len] at hl
            have e := spots (i := i) hl fun j y hj ey => by
              obtain ⟨z, ez⟩ : ∃ z, (rangeD 0 (Int.toNat 8))[j]? = some z := ⟨_, List.getElem?_eq_getElem (by rw [rangeD_len]; exact hj)⟩
              exact hy j z y ez ey
            rw [e, eqv8 hi]
            exact ⟨flat8 i, flat8 i, _, rfl, fun z => nomatch z⟩
      · obtain ⟨rfl, s6, s7, s8, s9, rfl⟩ := hv
        exact ⟨rfl, _, _, _, _, _, rfl⟩
  · obtain ⟨rfl, s5, s6, s7, s8, s9, rfl⟩ := hv
    exact ⟨rfl, _, _, _, _, _, _, _, _, rfl⟩
end
end Dw

namespace Dw
open PySem PySem.Spec PyProof.Rows L2
/-- what the written part says of the classes, in one answer -/
def chk (K : PySem.W.Frag) (c1 c2 c3 c4 c5 c6 c7 c8 c9 : Addr) : Bool :=
  mkB K c2 tlV "ValueError.__new__" && (mkB K c3 tlV "ValueError.__new__" && (mkB K c5 tlV "ValueError.__new__" && (mkB K c6 tlV "ValueError.__new__" && (mkB K c9 tlK "LookupError.__new__" &&
  ([c2, c3, c4, c5, c6, c7, c8, c9].all (isxB K) && (noB K c2 "at" && (noB K c3 "word" && (noB K c3 "at" && (noB K c5 "names" && (noB K c6 "at" && (noB K c9 "name" &&
  (PySem.W.keepIn K (.ref c4) && (PySem.W.keepIn K (.ref c7) && (PySem.W.keepIn K (.ref c8) &&
  (kitB K [c2, c3, c4, c5, c6, c7, c8, c9] (.ref c1) (fun i => decide (i < 7)) && (kitB K [c2, c3, c4, c5, c6, c7, c8, c9] (.type "ValueError") (fun i => decide (i < 7)) && (kitB K [c2, c3, c4, c5, c6, c7, c8, c9] (.type "KeyError") (fun i => decide (i = 7)) &&
  (List.range 8).all fun j => kitB K [c2, c3, c4, c5, c6, c7, c8, c9] (.ref ([c2, c3, c4, c5, c6, c7, c8, c9].getD j 0)) (fun i => decide (i = j)))))))))))))))))))
section
variable {K : PySem.W.Frag} {mg : Str → Option Value} {h : Heap}
/-- a def at the top -/
structure TopF (K : PySem.W.Frag) (mg : Str → Option Value) (x : Str) (st : Stmt) (f : Addr) (fd : FuncData) : Prop where
  F : Fun K x x st f fd
  g : mg x = some (.ref f)
theorem init_binds1 {x : Str} {fd : FuncData} {f : Addr} {st : Stmt} {q : Str} (F : Fun K "__init__" q st f fd) (ha : ∀ (a b : Value) (kV doc pm cdv ct : Value) (an : Option Addr), bindArgs (PySem.W.fnOf "__init__" q (defArgs st) (defBody st) (defScope st) .none kV doc pm an cdv ct) ⟨[a], [(x, b)]⟩ = pure [(("self" : Str), a), (x, b)]) :
    ∀ (v : Value) (ws : List Value) (s : Shared), K.In s.heap → ws.length = ([x] : List Str).length → BindsTo s fd ⟨[v], [x].zip ws⟩ ((["self", x] : List Str).zip (v :: id ws)) := by
  obtain ⟨oc, od, kV, doc, pm, an, cdv, ct, osl, rfl, _, _⟩ := F.ex
  intro v ws s _ hl
  match ws, hl with
  | [b], _ => exact .of_eq (ha v b kV doc pm cdv ct an)
theorem init_binds2 {fd : FuncData} {f : Addr} {st : Stmt} {q : Str} (F : Fun K "__init__" q st f fd) (ha : ∀ (a b c : Value) (kV doc pm cdv ct : Value) (an : Option Addr), bindArgs (PySem.W.fnOf "__init__" q (defArgs st) (defBody st) (defScope st) .none kV doc pm an cdv ct) ⟨[a], [(("at" : Str), b), ("word", c)]⟩ = pure [(("self" : Str), a), ("word", c), ("at", b)]) :
    ∀ (v : Value) (ws : List Value) (s : Shared), K.In s.heap → ws.length = (["at", "word"] : List Str).length → BindsTo s fd ⟨[v], (["at", "word"] : List Str).zip ws⟩ ((["self", "word", "at"] : List Str).zip (v :: List.reverse ws)) := by
  obtain ⟨oc, od, kV, doc, pm, an, cdv, ct, osl, rfl, _, _⟩ := F.ex
  intro v ws s _ hl
  match ws, hl with
  | [b, c], _ => exact .of_eq (ha v b c kV doc pm cdv ct an)
end
theorem all_mk {P : Program} {w : World} {K : PySem.W.Frag} {h : Heap} {mg : Str → Option Value} {fa c1 c2 c3 c4 c5 c6 c7 c8 c9 fDe fDr fVa fCr fBy fAt fKi fLa fI2 fI3 fI5 fI6 fI9 : Addr} (X : K.In h) (G : h.Ns mainGlobals mg) (hfa : mg "law" = some (.ref fa))
    {odDe anDe odDr anDr odVa anVa odCr anCr odBy anBy odAt anAt odKi anKi odLa anLa odI2 anI2 odI3 anI3 odI5 anI5 odI6 anI6 odI9 anI9 : Option Addr} {slDe slDr slVa slCr slBy slAt slKi slLa slI2 slI3 slI5 slI6 slI9 : Array (Option Value)} {ocDe kVDe dcDe pmDe cdDe ctDe ocDr kVDr dcDr pmDr cdDr ctDr ocVa kVVa dcVa pmVa cdVa ctVa ocCr kVCr dcCr pmCr cdCr ctCr ocBy kVBy dcBy pmBy cdBy ctBy ocAt kVAt dcAt pmAt cdAt ctAt ocKi kVKi dcKi pmKi cdKi ctKi ocLa kVLa dcLa pmLa cdLa ctLa ocI2 kVI2 dcI2 pmI2 cdI2 ctI2 ocI3 kVI3 dcI3 pmI3 cdI3 ctI3 ocI5 kVI5 dcI5 pmI5 cdI5 ctI5 ocI6 kVI6 dcI6 pmI6 cdI6 ctI6 ocI9 kVI9 dcI9 pmI9 cdI9 ctI9 : Value}
    (aC1 : PySem.W.nsIn K mainGlobals "YardError" = some (some (.ref c1)))
    (aC2 : PySem.W.nsIn K mainGlobals "NoText" = some (some (.ref c2)))
    (aC3 : PySem.W.nsIn K mainGlobals "NoPlan" = some (some (.ref c3)))
    (aC4 : PySem.W.nsIn K mainGlobals "OtherPlan" = some (some (.ref c4)))
    (aC5 : PySem.W.nsIn K mainGlobals "Falls" = some (some (.ref c5)))
    (aC6 : PySem.W.nsIn K mainGlobals "NoDeed" = some (some (.ref c6)))
    (aC7 : PySem.W.nsIn K mainGlobals "NoProp" = some (some (.ref c7)))
    (aC8 : PySem.W.nsIn K mainGlobals "NoRow" = some (some (.ref c8)))
    (aC9 : PySem.W.nsIn K mainGlobals "NoPart" = some (some (.ref c9)))
    (aDe : PySem.W.nsIn K mainGlobals "_law_deal" = some (some (.ref fDe))) (lDe : K.lookup fDe = some ⟨ocDe, odDe, .func (PySem.W.fnOf "_law_deal" "_law_deal" (defArgs sDeal) (defBody sDeal) (defScope sDeal) .none kVDe dcDe pmDe anDe cdDe ctDe), slDe⟩) (dDe : PySem.W.codeIn K cdDe "_law_deal" = true) (kDe : PySem.W.keepIn K (.ref fDe) = true)
    (aDr : PySem.W.nsIn K mainGlobals "_law_draw" = some (some (.ref fDr))) (lDr : K.lookup fDr = some ⟨ocDr, odDr, .func (PySem.W.fnOf "_law_draw" "_law_draw" (defArgs sDraw) (defBody sDraw) (defScope sDraw) .none kVDr dcDr pmDr anDr cdDr ctDr), slDr⟩) (dDr : PySem.W.codeIn K cdDr "_law_draw" = true) (kDr : PySem.W.keepIn K (.ref fDr) = true)
    (aVa : PySem.W.nsIn K mainGlobals "_law_value" = some (some (.ref fVa))) (lVa : K.lookup fVa = some ⟨ocVa, odVa, .func (PySem.W.fnOf "_law_value" "_law_value" (defArgs sVal) (defBody sVal) (defScope sVal) .none kVVa dcVa pmVa anVa cdVa ctVa), slVa⟩) (dVa : PySem.W.codeIn K cdVa "_law_value" = true) (kVa : PySem.W.keepIn K (.ref fVa) = true)
    (aCr : PySem.W.nsIn K mainGlobals "_law_created" = some (some (.ref fCr))) (lCr : K.lookup fCr = some ⟨ocCr, odCr, .func (PySem.W.fnOf "_law_created" "_law_created" (defArgs sCre) (defBody sCre) (defScope sCre) .none kVCr dcCr pmCr anCr cdCr ctCr), slCr⟩) (dCr : PySem.W.codeIn K cdCr "_law_created" = true) (kCr : PySem.W.keepIn K (.ref fCr) = true)
    (aBy : PySem.W.nsIn K mainGlobals "_law_by_names" = some (some (.ref fBy))) (lBy : K.lookup fBy = some ⟨ocBy, odBy, .func (PySem.W.fnOf "_law_by_names" "_law_by_names" (defArgs sByN) (defBody sByN) (defScope sByN) .none kVBy dcBy pmBy anBy cdBy ctBy), slBy⟩) (dBy : PySem.W.codeIn K cdBy "_law_by_names" = true) (kBy : PySem.W.keepIn K (.ref fBy) = true)
    (aAt : PySem.W.nsIn K mainGlobals "_law_attributes" = some (some (.ref fAt))) (lAt : K.lookup fAt = some ⟨ocAt, odAt, .func (PySem.W.fnOf "_law_attributes" "_law_attributes" (defArgs sAtt) (defBody sAtt) (defScope sAtt) .none kVAt dcAt pmAt anAt cdAt ctAt), slAt⟩) (dAt : PySem.W.codeIn K cdAt "_law_attributes" = true) (kAt : PySem.W.keepIn K (.ref fAt) = true)
    (aKi : PySem.W.nsIn K mainGlobals "_law_kinds" = some (some (.ref fKi))) (lKi : K.lookup fKi = some ⟨ocKi, odKi, .func (PySem.W.fnOf "_law_kinds" "_law_kinds" (defArgs sKin) (defBody sKin) (defScope sKin) .none kVKi dcKi pmKi anKi cdKi ctKi), slKi⟩) (dKi : PySem.W.codeIn K cdKi "_law_kinds" = true) (kKi : PySem.W.keepIn K (.ref fKi) = true)
    (aLa : PySem.W.nsIn K mainGlobals "law" = some (some (.ref fLa))) (lLa : K.lookup fLa = some ⟨ocLa, odLa, .func (PySem.W.fnOf "law" "law" (defArgs sLaw) (defBody sLaw) (defScope sLaw) .none kVLa dcLa pmLa anLa cdLa ctLa), slLa⟩) (dLa : PySem.W.codeIn K cdLa "law" = true) (kLa : PySem.W.keepIn K (.ref fLa) = true)
    (aI2 : PySem.W.findIn K (.ref c2) "__init__" = some (some (.ref fI2))) (tI2 : PySem.W.typeIn K (.ref fI2) = some (.type "function")) (lI2 : K.lookup fI2 = some ⟨ocI2, odI2, .func (PySem.W.fnOf "__init__" "NoText.__init__" (defArgs sI2) (defBody sI2) (defScope sI2) .none kVI2 dcI2 pmI2 anI2 cdI2 ctI2), slI2⟩) (dI2 : PySem.W.codeIn K cdI2 "NoText.__init__" = true) (kI2 : PySem.W.keepIn K (.ref fI2) = true)
    (aI3 : PySem.W.findIn K (.ref c3) "__init__" = some (some (.ref fI3))) (tI3 : PySem.W.typeIn K (.ref fI3) = some (.type "function")) (lI3 : K.lookup fI3 = some ⟨ocI3, odI3, .func (PySem.W.fnOf "__init__" "NoPlan.__init__" (defArgs sI3) (defBody sI3) (defScope sI3) .none kVI3 dcI3 pmI3 anI3 cdI3 ctI3), slI3⟩) (dI3 : PySem.W.codeIn K cdI3 "NoPlan.__init__" = true) (kI3 : PySem.W.keepIn K (.ref fI3) = true)
    (aI5 : PySem.W.findIn K (.ref c5) "__init__" = some (some (.ref fI5))) (tI5 : PySem.W.typeIn K (.ref fI5) = some (.type "function")) (lI5 : K.lookup fI5 = some ⟨ocI5, odI5, .func (PySem.W.fnOf "__init__" "Falls.__init__" (defArgs sI5) (defBody sI5) (defScope sI5) .none kVI5 dcI5 pmI5 anI5 cdI5 ctI5), slI5⟩) (dI5 : PySem.W.codeIn K cdI5 "Falls.__init__" = true) (kI5 : PySem.W.keepIn K (.ref fI5) = true)
    (aI6 : PySem.W.findIn K (.ref c6) "__init__" = some (some (.ref fI6))) (tI6 : PySem.W.typeIn K (.ref fI6) = some (.type "function")) (lI6 : K.lookup fI6 = some ⟨ocI6, odI6, .func (PySem.W.fnOf "__init__" "NoDeed.__init__" (defArgs sI6) (defBody sI6) (defScope sI6) .none kVI6 dcI6 pmI6 anI6 cdI6 ctI6), slI6⟩) (dI6 : PySem.W.codeIn K cdI6 "NoDeed.__init__" = true) (kI6 : PySem.W.keepIn K (.ref fI6) = true)
    (aI9 : PySem.W.findIn K (.ref c9) "__init__" = some (some (.ref fI9))) (tI9 : PySem.W.typeIn K (.ref fI9) = some (.type "function")) (lI9 : K.lookup fI9 = some ⟨ocI9, odI9, .func (PySem.W.fnOf "__init__" "NoPart.__init__" (defArgs sI9) (defBody sI9) (defScope sI9) .none kVI9 dcI9 pmI9 anI9 cdI9 ctI9), slI9⟩) (dI9 : PySem.W.codeIn K cdI9 "NoPart.__init__" = true) (kI9 : PySem.W.keepIn K (.ref fI9) = true)
    (x4 : PySem.W.excIn K c4 tlV "ValueError.__new__" = true)    (x7 : PySem.W.excIn K c7 tlV "ValueError.__new__" = true)    (x8 : PySem.W.excIn K c8 tlV "ValueError.__new__" = true)
    (ck : chk K c1 c2 c3 c4 c5 c6 c7 c8 c9 = true)
    (zmax : PySem.W.nsIn K mainGlobals "max" = some none) (zlist : PySem.W.nsIn K mainGlobals "list" = some none) (zreversed : PySem.W.nsIn K mainGlobals "reversed" = some none) (zlen : PySem.W.nsIn K mainGlobals "len" = some none) (ztuple : PySem.W.nsIn K mainGlobals "tuple" = some none) (zrange : PySem.W.nsIn K mainGlobals "range" = some none) (zrepr : PySem.W.nsIn K mainGlobals "repr" = some none) (zenumerate : PySem.W.nsIn K mainGlobals "enumerate" = some none) (zisinstance : PySem.W.nsIn K mainGlobals "isinstance" = some none) (zValueError : PySem.W.nsIn K mainGlobals "ValueError" = some none) (zKeyError : PySem.W.nsIn K mainGlobals "KeyError" = some none) :
    ∃ fd : FuncData, (∀ (s : Shared) (v : Value), BindsTo s fd ⟨[v], []⟩ [("_law_script", v)]) ∧ ∀ base : Heap, K.In base → base.Ns mainGlobals mg → FnG P w K mg base 7 fa fd ["_law_script"] (spLaw K) := by
  have e := hfa.symm.trans (PySem.W.mg_of X G aLa)
  cases e
  have FDe := fun_mk (st := sDeal) lDe dDe kDe
  have bDe := FDe.binds (ps := ["_law_script", "_law_base"]) fun _ _ _ _ _ _ us hl => match us, hl with | [_, _], _ => rfl
  have FDr := fun_mk (st := sDraw) lDr dDr kDr
  have bDr := FDr.binds (ps := ["_law_deal_here", "_law_many"]) fun _ _ _ _ _ _ us hl => match us, hl with | [_, _], _ => rfl
  have FVa := fun_mk (st := sVal) lVa dVa kVa
  have bVa := FVa.binds (ps := ["_law_deal_here", "_law_room"]) fun _ _ _ _ _ _ us hl => match us, hl with | [_, _], _ => rfl
  have FCr := fun_mk (st := sCre) lCr dCr kCr
  have bCr := FCr.binds (ps := ["_law_one", "_law_two"]) fun _ _ _ _ _ _ us hl => match us, hl with | [_, _], _ => rfl
  have FBy := fun_mk (st := sByN) lBy dBy kBy
  have bBy := FBy.binds (ps := ["_law_one", "_law_two"]) fun _ _ _ _ _ _ us hl => match us, hl with | [_, _], _ => rfl
  have FAt := fun_mk (st := sAtt) lAt dAt kAt
  have bAt := FAt.binds (ps := ["_law_found"]) fun _ _ _ _ _ _ us hl => match us, hl with | [_], _ => rfl
  have FKi := fun_mk (st := sKin) lKi dKi kKi
  have bKi := FKi.binds (ps := ["_law_e"]) fun _ _ _ _ _ _ us hl => match us, hl with | [_], _ => rfl
  have FLa := fun_mk (st := sLaw) lLa dLa kLa
  have FI2 := fun_mk (st := sI2) lI2 dI2 kI2
  have bI2 := FI2.binds (ps := ["self", "at"]) fun _ _ _ _ _ _ us hl => match us, hl with | [_, _], _ => rfl
  have FI3 := fun_mk (st := sI3) lI3 dI3 kI3
  have bI3 := FI3.binds (ps := ["self", "word", "at"]) fun _ _ _ _ _ _ us hl => match us, hl with | [_, _, _], _ => rfl
  have FI5 := fun_mk (st := sI5) lI5 dI5 kI5
  have bI5 := FI5.binds (ps := ["self", "names"]) fun _ _ _ _ _ _ us hl => match us, hl with | [_, _], _ => rfl
  have FI6 := fun_mk (st := sI6) lI6 dI6 kI6
  have bI6 := FI6.binds (ps := ["self", "at"]) fun _ _ _ _ _ _ us hl => match us, hl with | [_, _], _ => rfl
  have FI9 := fun_mk (st := sI9) lI9 dI9 kI9
  have bI9 := FI9.binds (ps := ["self", "name"]) fun _ _ _ _ _ _ us hl => match us, hl with | [_, _], _ => rfl
  unfold chk at ck
  simp only [Bool.and_eq_true, List.all_cons, List.all_nil] at ck
  obtain ⟨m2, m3, m5, m6, m9, ⟨i2, i3, i4, i5, i6, i7, i8, i9, _⟩, n2, n3, n3', n5, n6, n9, k4, k7, k8, ky, kv, kk, ka⟩ := ck
  have E2 := mkV_ok m2 i2
  have E3 := mkV_ok m3 i3
  have E5 := mkV_ok m5 i5
  have E6 := mkV_ok m6 i6
  have E9 := mkK_ok m9 i9
  have T : Kit2 K [c2, c3, c4, c5, c6, c7, c8, c9] c1 := ⟨⟨fun C hC => by
    simp only [List.mem_cons, List.not_mem_nil, or_false] at hC
    rcases hC with rfl | rfl | rfl | rfl | rfl | rfl | rfl | rfl <;> exact isxB_ok (by assumption), fun i j C C' hi hj => by
    have hj8 : j < 8 := (List.getElem?_eq_some_iff.mp hj).1
    have z := List.all_eq_true.mp ka j (List.mem_range.mpr hj8)
    have e : [c2, c3, c4, c5, c6, c7, c8, c9].getD j 0 = C' := by
      rw [List.getD_eq_getElem?_getD, hj]
      rfl
    rw [e] at z
    exact kitB_ok z hi⟩, fun i C hi => kitB_ok ky hi, fun i C hi => kitB_ok kv hi, fun i C hi => kitB_ok kk hi⟩
  refine ⟨PySem.W.fnOf "law" "law" (defArgs sLaw) (defBody sLaw) (defScope sLaw) .none kVLa dcLa pmLa anLa cdLa ctLa, fun s v => .of_eq rfl, fun base _ _ => ?_⟩
  have ymax := PySem.W.mg_none_of X G zmax
  have ylist := PySem.W.mg_none_of X G zlist
  have yreversed := PySem.W.mg_none_of X G zreversed
  have ylen := PySem.W.mg_none_of X G zlen
  have ytuple := PySem.W.mg_none_of X G ztuple
  have yrange := PySem.W.mg_none_of X G zrange
  have yrepr := PySem.W.mg_none_of X G zrepr
  have yenumerate := PySem.W.mg_none_of X G zenumerate
  have yisinstance := PySem.W.mg_none_of X G zisinstance
  have yValueError := PySem.W.mg_none_of X G zValueError
  have yKeyError := PySem.W.mg_none_of X G zKeyError
  have g1 := PySem.W.mg_of X G aC1
  have g2 := PySem.W.mg_of X G aC2
  have g3 := PySem.W.mg_of X G aC3
  have g4 := PySem.W.mg_of X G aC4
  have g5 := PySem.W.mg_of X G aC5
  have g6 := PySem.W.mg_of X G aC6
  have g7 := PySem.W.mg_of X G aC7
  have g8 := PySem.W.mg_of X G aC8
  have g9 := PySem.W.mg_of X G aC9
  have gDe := PySem.W.mg_of X G aDe
  have gDr := PySem.W.mg_of X G aDr
  have gVa := PySem.W.mg_of X G aVa
  have gCr := PySem.W.mg_of X G aCr
  have gBy := PySem.W.mg_of X G aBy
  have gAt := PySem.W.mg_of X G aAt
  have gKi := PySem.W.mg_of X G aKi
  have M2 : ExMk P w K mg base 1 "NoText" c2 _ _ _ _ := ⟨⟨_, _, _, _, _, _, E2, PySem.F.excBase_ValueError, ok_i2 (k := 0) FI2 E2 (noB_ok n2), aI2, tI2, bI2, init_binds1 (x := "at") FI2 (fun _ _ _ _ _ _ _ _ => rfl)⟩, g2⟩
  have M3 : ExMk P w K mg base 1 "NoPlan" c3 _ _ _ _ := ⟨⟨_, _, _, _, _, _, E3, PySem.F.excBase_ValueError, ok_i3 (k := 0) FI3 E3 (noB_ok n3) (noB_ok n3'), aI3, tI3, bI3, init_binds2 FI3 (fun _ _ _ _ _ _ _ _ _ => rfl)⟩, g3⟩
  have M5 : ExMk P w K mg base 1 "Falls" c5 _ _ _ _ := ⟨⟨_, _, _, _, _, _, E5, PySem.F.excBase_ValueError, ok_i5 (k := 0) FI5 E5 (noB_ok n5), aI5, tI5, bI5, init_binds1 (x := "names") FI5 (fun _ _ _ _ _ _ _ _ => rfl)⟩, g5⟩
  have M6 : ExMk P w K mg base 1 "NoDeed" c6 _ _ _ _ := ⟨⟨_, _, _, _, _, _, E6, PySem.F.excBase_ValueError, ok_i6 (k := 0) FI6 E6 (noB_ok n6), aI6, tI6, bI6, init_binds1 (x := "at") FI6 (fun _ _ _ _ _ _ _ _ => rfl)⟩, g6⟩
  have M9 : ExMk P w K mg base 1 "NoPart" c9 _ _ _ _ := ⟨⟨_, _, _, _, _, _, E9, PySem.F.excBase_LookupError, ok_i9 (k := 0) FI9 E9 (noB_ok n9), aI9, tI9, bI9, init_binds1 (x := "name") FI9 (fun _ _ _ _ _ _ _ _ => rfl)⟩, g9⟩
  have GDr := ok_draw (P := P) (w := w) (base := base) (k := 0) FDr ylen
  have GVa := ok_value FVa gVa bVa GDr gDr kDr bDr ytuple yrange 4
  exact ok_law (k := 6) FLa ((ok_deal (k := 5) FDe ymax ylist yreversed)) gDe kDe bDe GVa gVa kVa bVa
    ((ok_cre FCr M2 M3 ⟨x4, k4, g4⟩ M5 M6 ⟨x7, k7, g7⟩ ⟨x8, k8, g8⟩ M9).mono (by decide)) gCr kCr bCr ((ok_byn FBy M2 M3 ⟨x4, k4, g4⟩ M5 M6 ⟨x7, k7, g7⟩ ⟨x8, k8, g8⟩ M9).mono (by decide)) gBy kBy bBy
    (ok_att (k := 5) FAt E2.xf E3.xf E5.xf E6.xf E9.xf (noB_ok n2) (noB_ok n3) (noB_ok n3') (noB_ok n5) (noB_ok n6) (noB_ok n9)) gAt kAt bAt
    (ok_kin (k := 5) FKi T.toKit yisinstance g2 g3 g4 g5 g6 g7 g8 g9) gKi kKi bKi T g1 yrange ylen yrepr yenumerate yisinstance yValueError yKeyError rfl
end Dw

open PySem PySem.W PyProof.Rows in
set_option maxRecDepth 100000 in
set_option maxHeartbeats 0 in
theorem PySem.Challenge.cw_nestprops_k01_errors_and_their_attribute_holds : PySem.Challenge.rw_nestprops_k01_errors_and_their_attribute.Holds := by
  w_on; o_law; k_head; (case hw => w_witness2)
  k_fill
  refine Dw.walk_g (l := PySem.Challenge.rw_nestprops_k01_errors_and_their_attribute) (n := 63) (k := 7) (x := "_law_script") (sp := fun w => Dw.spLaw _) rfl (by decide) rfl ⟨rfl, by decide, by decide⟩ (fun w h Y => PySem.W.kIn_of Y) ?F (fun w H a ns hl hO hS => ⟨a, ns, rfl, hS, hl, fun _ => rfl⟩)
  case F =>
    intro w mg fa h KX G hmg
    refine' Dw.all_mk KX G hmg ?aC1 ?aC2 ?aC3 ?aC4 ?aC5 ?aC6 ?aC7 ?aC8 ?aC9 ?aDe ?lDe ?dDe ?kDe ?aDr ?lDr ?dDr ?kDr ?aVa ?lVa ?dVa ?kVa ?aCr ?lCr ?dCr ?kCr ?aBy ?lBy ?dBy ?kBy ?aAt ?lAt ?dAt ?kAt ?aKi ?lKi ?dKi ?kKi ?aLa ?lLa ?dLa ?kLa ?aI2 ?tI2 ?lI2 ?dI2 ?kI2 ?aI3 ?tI3 ?lI3 ?dI3 ?kI3 ?aI5 ?tI5 ?lI5 ?dI5 ?kI5 ?aI6 ?tI6 ?lI6 ?dI6 ?kI6 ?aI9 ?tI9 ?lI9 ?dI9 ?kI9 ?x4 ?x7 ?x8 ?ck ?zmax ?zlist ?zreversed ?zlen ?ztuple ?zrange ?zrepr ?zenumerate ?zisinstance ?zValueError ?zKeyError
    (case aC1 => k_is)
    (case aC2 => k_is)
    (case aC3 => k_is)
    (case aC4 => k_is)
    (case aC5 => k_is)
    (case aC6 => k_is)
    (case aC7 => k_is)
    (case aC8 => k_is)
    (case aC9 => k_is)
    (case aDe => k_is)
    (case lDe => k_is)
    (case dDe => k_is)
    (case kDe => k_is)
    (case aDr => k_is)
    (case lDr => k_is)
    (case dDr => k_is)
    (case kDr => k_is)
    (case aVa => k_is)
    (case lVa => k_is)
    (case dVa => k_is)
    (case kVa => k_is)
    (case aCr => k_is)
    (case lCr => k_is)
    (case dCr => k_is)
    (case kCr => k_is)
    (case aBy => k_is)
    (case lBy => k_is)
    (case dBy => k_is)
    (case kBy => k_is)
    (case aAt => k_is)
    (case lAt => k_is)
    (case dAt => k_is)
    (case kAt => k_is)
    (case aKi => k_is)
    (case lKi => k_is)
    (case dKi => k_is)
    (case kKi => k_is)
    (case aLa => k_is)
    (case lLa => k_is)
    (case dLa => k_is)
    (case kLa => k_is)
    (case aI2 => k_is)
    (case tI2 => k_is)
    (case lI2 => k_is)
    (case dI2 => k_is)
    (case kI2 => k_is)
    (case aI3 => k_is)
    (case tI3 => k_is)
    (case lI3 => k_is)
    (case dI3 => k_is)
    (case kI3 => k_is)
    (case aI5 => k_is)
    (case tI5 => k_is)
    (case lI5 => k_is)
    (case dI5 => k_is)
    (case kI5 => k_is)
    (case aI6 => k_is)
    (case tI6 => k_is)
    (case lI6 => k_is)
    (case dI6 => k_is)
    (case kI6 => k_is)
    (case aI9 => k_is)
    (case tI9 => k_is)
    (case lI9 => k_is)
    (case dI9 => k_is)
    (case kI9 => k_is)
    (case x4 => k_exc)
    (case x7 => k_exc)
    (case x8 => k_exc)
    (case ck => kernel_rfl)
    (case zmax => k_is)
    (case zlist => k_is)
    (case zreversed => k_is)
    (case zlen => k_is)
    (case ztuple => k_is)
    (case zrange => k_is)
    (case zrepr => k_is)
    (case zenumerate => k_is)
    (case zisinstance => k_is)
    (case zValueError => k_is)
    (case zKeyError => k_is)
