import PyProof.Rows.All
import HandS.ForMost
import HandS.ForExc
import HandS.ExcInit
import HandS.Rev
import HandS.EndBits
import PyProof.ReprRoads
import PyProof.ReprLen
import PyProof.Rows.SeqMore
import HandS.Iter
import HandS.Text
import HandS.TupMul
import HandS.Conv
import PySem.Challenge.RW_nestprops_k28_depths_and_reversed_script
import HandS.Style
import PyProof.StrLawsRepr
import HandS.SetBool
import HandS.More
import HandS.Strs
import HandS.Comp
import HandS.TupAny
import HandS.Deep
import PyProof.Rows.BitMore
import HandS.Zip
import HandS.SortInts
import HandS.IsInst
import HandS.Small
import Wide.All
import OpenK.AllK
import Wide.FinOn
set_option Elab.async false
set_option linter.all false
set_option maxRecDepth 100000
set_option autoImplicit false
/-! Dw1: data over the hand layer: values as trees, what represents them, frames, states of slots. -/
namespace Dw
open PySem PySem.Spec PyProof.Rows L2

/-- a value as a tree -/
inductive D where
  | non
  | bl (b : Bool)
  | int (i : Int)
  | str (s : Str)
  | ref (a : Addr)
  | lst (xs : List D)
  | tup (xs : List D)
  | ins (C : Addr) (ns : List Str) (ds : List D)
  | exc (C : Addr) (ns : List Str) (ds : List D)

abbrev No := Addr → Prop
/-- the read part alone -/
def H00 : Hp := fun _ => none
def LAt (K : PySem.W.Frag) (N : No) (H : Hp) (a : Addr) (vs : List V) : Prop := (¬ N a ∧ Rd H a (.lst vs)) ∨ SqL K H00 a vs
def TAt (K : PySem.W.Frag) (N : No) (H : Hp) (a : Addr) (vs : List V) : Prop := (¬ N a ∧ Rd H a (.tup vs)) ∨ SqT K H00 a vs
theorem no_rd {a : Addr} {u : HO} : ¬ Rd H00 a u := by
  rintro (h | ⟨o, h⟩)
  · exact nomatch h
  · exact nomatch h
theorem sqL_up {K : PySem.W.Frag} {H : Hp} {a : Addr} {vs : List V} (h : SqL K H00 a vs) : SqL K H a vs := by
  rcases h with h | h
  · exact (no_rd h).elim
  · exact .inr h
theorem sqT_up {K : PySem.W.Frag} {H : Hp} {a : Addr} {vs : List V} (h : SqT K H00 a vs) : SqT K H a vs := by
  rcases h with h | h
  · exact (no_rd h).elim
  · exact .inr h
theorem LAt.sq {K : PySem.W.Frag} {N : No} {H : Hp} {a : Addr} {vs : List V} (h : LAt K N H a vs) : SqL K H a vs := by
  rcases h with h | h
  · exact .inl h.2
  · exact sqL_up h
theorem TAt.sq {K : PySem.W.Frag} {N : No} {H : Hp} {a : Addr} {vs : List V} (h : TAt K N H a vs) : SqT K H a vs := by
  rcases h with h | h
  · exact .inl h.2
  · exact sqT_up h
/-- what stands outside of N stays -/
def Sm (N : No) (H H' : Hp) : Prop := ∀ a o, ¬ N a → H a = some o → H' a = some o
theorem Sm.refl {N : No} {H : Hp} : Sm N H H := fun _ _ _ h => h
theorem Sm.trans {N : No} {H H1 H2 : Hp} (a : Sm N H H1) (b : Sm N H1 H2) : Sm N H H2 := fun x o n h => b x o n (a x o n h)
theorem Sm.wide {N M : No} {H H1 : Hp} (a : Sm N H H1) (h : ∀ x, N x → M x) : Sm M H H1 := fun x o n e => a x o (fun z => n (h x z)) e
theorem Sm.new {N : No} {H : Hp} {p : Addr} {o : HO} (h : H p = none) : Sm N H (upd H p o) := fun a u _ e => by
  rw [upd_ne (ne_of_none e h)]
  exact e
theorem Sm.rd {N : No} {H H' : Hp} {a : Addr} {u : HO} (e : Sm N H H') (n : ¬ N a) (h : Rd H a u) : Rd H' a u := by
  rcases h with h | ⟨o, h⟩
  · exact .inl (e a _ n h)
  · exact .inr ⟨o, e a _ n h⟩
theorem LAt.mono {K : PySem.W.Frag} {N : No} {H H' : Hp} {a : Addr} {vs : List V} (e : Sm N H H') (h : LAt K N H a vs) : LAt K N H' a vs := by
  rcases h with ⟨n, h⟩ | h
  · exact .inl ⟨n, e.rd n h⟩
  · exact .inr h
theorem TAt.mono {K : PySem.W.Frag} {N : No} {H H' : Hp} {a : Addr} {vs : List V} (e : Sm N H H') (h : TAt K N H a vs) : TAt K N H' a vs := by
  rcases h with ⟨n, h⟩ | h
  · exact .inl ⟨n, e.rd n h⟩
  · exact .inr h
theorem rd_tracked {H : Hp} {a p : Addr} {u : HO} (h : Rd H a u) (n : H p = none) : a ≠ p := by
  rcases h with h | ⟨o, h⟩
  · exact ne_of_none h n
  · exact ne_of_none h n

mutual
/-- the value v stands for the tree, by objects outside of N -/
def Rep (K : PySem.W.Frag) (N : No) (H : Hp) : D → V → Prop
  | .non, v => v = .non
  | .bl b, v => v = .bl b
  | .int i, v => v = .int i
  | .str s, v => v = .str s
  | .ref a, v => v = .ref a
  | .lst ds, v => ∃ a vs, v = .ref a ∧ LAt K N H a vs ∧ RepL K N H ds vs
  | .tup ds, v => ∃ a vs, v = .ref a ∧ TAt K N H a vs ∧ RepL K N H ds vs
  | .ins C ns ds, v => ∃ a dx vs, v = .ref a ∧ ¬ N a ∧ ¬ N dx ∧ H a = some (.ins C dx (ns.zip vs)) ∧ H dx = some (.own a) ∧ ns.length = ds.length ∧ RepL K N H ds vs
  | .exc C ns ds, v => ∃ a o vs, v = .ref a ∧ ¬ N a ∧ H a = some (exo a C o) ∧ ((o = none ∧ ns = []) ∨ ∃ dx, o = some dx ∧ ¬ N dx ∧ H dx = some (exd dx (ns.zip vs))) ∧ ns.length = ds.length ∧ RepL K N H ds vs
def RepL (K : PySem.W.Frag) (N : No) (H : Hp) : List D → List V → Prop
  | [], vs => vs = []
  | d :: ds, vs => ∃ v r, vs = v :: r ∧ Rep K N H d v ∧ RepL K N H ds r
end

mutual
theorem Rep.mono {K : PySem.W.Frag} {N : No} {H H' : Hp} (e : Sm N H H') : ∀ {d : D} {v : V}, Rep K N H d v → Rep K N H' d v
  | .non, _, h => h
  | .bl _, _, h => h
  | .int _, _, h => h
  | .str _, _, h => h
  | .ref _, _, h => h
  | .lst ds, v, h => by
    obtain ⟨a, vs, e1, h1, h2⟩ := h
    exact ⟨a, vs, e1, h1.mono e, RepL.mono e h2⟩
  | .tup ds, v, h => by
    obtain ⟨a, vs, e1, h1, h2⟩ := h
    exact ⟨a, vs, e1, h1.mono e, RepL.mono e h2⟩
  | .ins C ns ds, v, h => by
    obtain ⟨a, dx, vs, e1, n1, n2, h1, h2, hl, h3⟩ := h
    exact ⟨a, dx, vs, e1, n1, n2, e a _ n1 h1, e dx _ n2 h2, hl, RepL.mono e h3⟩
  | .exc C ns ds, v, h => by
    obtain ⟨a, o, vs, e1, n1, h1, h2, hl, h3⟩ := h
    exact ⟨a, o, vs, e1, n1, e a _ n1 h1, h2.imp id (fun ⟨dx, e2, n2, q⟩ => ⟨dx, e2, n2, e dx _ n2 q⟩), hl, RepL.mono e h3⟩
theorem RepL.mono {K : PySem.W.Frag} {N : No} {H H' : Hp} (e : Sm N H H') : ∀ {ds : List D} {vs : List V}, RepL K N H ds vs → RepL K N H' ds vs
  | [], _, h => h
  | d :: ds, vs, h => by
    obtain ⟨v, r, e1, h1, h2⟩ := h
    exact ⟨v, r, e1, Rep.mono e h1, RepL.mono e h2⟩
end
theorem LAt.gen {K : PySem.W.Frag} {N M : No} {H : Hp} {a : Addr} {vs : List V} (e : ∀ a, M a → N a ∨ H a = none) (h : LAt K N H a vs) : LAt K M H a vs := by
  rcases h with ⟨n, h⟩ | h
  · exact .inl ⟨fun q => (e a q).elim n fun z => rd_tracked h z rfl, h⟩
  · exact .inr h
theorem TAt.gen {K : PySem.W.Frag} {N M : No} {H : Hp} {a : Addr} {vs : List V} (e : ∀ a, M a → N a ∨ H a = none) (h : TAt K N H a vs) : TAt K M H a vs := by
  rcases h with ⟨n, h⟩ | h
  · exact .inl ⟨fun q => (e a q).elim n fun z => rd_tracked h z rfl, h⟩
  · exact .inr h
mutual
/-- another set is forbidden: of the first one, or where nothing stands -/
theorem Rep.gen {K : PySem.W.Frag} {N M : No} {H : Hp} (e : ∀ a, M a → N a ∨ H a = none) : ∀ {d : D} {v : V}, Rep K N H d v → Rep K M H d v
  | .non, _, h => h
  | .bl _, _, h => h
  | .int _, _, h => h
  | .str _, _, h => h
  | .ref _, _, h => h
  | .lst ds, v, h => by
    obtain ⟨a, vs, e1, h1, h2⟩ := h
    exact ⟨a, vs, e1, h1.gen e, RepL.gen e h2⟩
  | .tup ds, v, h => by
    obtain ⟨a, vs, e1, h1, h2⟩ := h
    exact ⟨a, vs, e1, h1.gen e, RepL.gen e h2⟩
  | .ins C ns ds, v, h => by
    obtain ⟨a, dx, vs, e1, n1, n2, h1, h2, hl, h3⟩ := h
    refine ⟨a, dx, vs, e1, fun z => (e a z).elim n1 fun q => ?_, fun z => (e dx z).elim n2 fun q => ?_, h1, h2, hl, RepL.gen e h3⟩
    · rw [h1] at q
      cases q
    · rw [h2] at q
      cases q
  | .exc C ns ds, v, h => by
    obtain ⟨a, o, vs, e1, n1, h1, h2, hl, h3⟩ := h
    refine ⟨a, o, vs, e1, fun z => (e a z).elim n1 fun q => ?_, h1, h2.imp id (fun ⟨dx, e2, n2, q⟩ => ⟨dx, e2, fun z => (e dx z).elim n2 fun y => ?_, q⟩), hl, RepL.gen e h3⟩
    · rw [h1] at q
      cases q
    · rw [q] at y
      cases y
theorem RepL.gen {K : PySem.W.Frag} {N M : No} {H : Hp} (e : ∀ a, M a → N a ∨ H a = none) : ∀ {ds : List D} {vs : List V}, RepL K N H ds vs → RepL K M H ds vs
  | [], _, h => h
  | d :: ds, vs, h => by
    obtain ⟨v, r, e1, h1, h2⟩ := h
    exact ⟨v, r, e1, Rep.gen e h1, RepL.gen e h2⟩
end
theorem Rep.less {K : PySem.W.Frag} {N M : No} {H : Hp} {d : D} {v : V} (e : ∀ a, M a → N a) (h : Rep K N H d v) : Rep K M H d v := h.gen fun a q => .inl (e a q)
theorem RepL.less {K : PySem.W.Frag} {N M : No} {H : Hp} {d : List D} {v : List V} (e : ∀ a, M a → N a) (h : RepL K N H d v) : RepL K M H d v := h.gen fun a q => .inl (e a q)
/-- N and one more -/
def plus (N : No) (p : Addr) : No := fun a => N a ∨ a = p
theorem Rep.more {K : PySem.W.Frag} {N : No} {H : Hp} {p : Addr} {d : D} {v : V} (n : H p = none) (h : Rep K N H d v) : Rep K (plus N p) H d v := h.gen fun a q => q.imp id fun z => by rw [z]; exact n
theorem RepL.more {K : PySem.W.Frag} {N : No} {H : Hp} {p : Addr} {d : List D} {v : List V} (n : H p = none) (h : RepL K N H d v) : RepL K (plus N p) H d v := h.gen fun a q => q.imp id fun z => by rw [z]; exact n

section
variable {K : PySem.W.Frag} {N : No} {H : Hp}
theorem RepL.length : ∀ {ds : List D} {vs : List V}, RepL K N H ds vs → ds.length = vs.length
  | [], _, h => by
    have e : _ = [] := h
    rw [e]
    rfl
  | d :: ds, vs, h => by
    obtain ⟨v, r, e1, h1, h2⟩ := h
    rw [e1, List.length_cons, List.length_cons, RepL.length h2]
theorem RepL.nil : RepL K N H [] [] := rfl
theorem RepL.cons {d : D} {ds : List D} {v : V} {vs : List V} (h : Rep K N H d v) (t : RepL K N H ds vs) : RepL K N H (d :: ds) (v :: vs) := ⟨v, vs, rfl, h, t⟩
theorem RepL.one {d : D} {v : V} (h : Rep K N H d v) : RepL K N H [d] [v] := .cons h .nil
theorem RepL.append : ∀ {ds es : List D} {vs ws : List V}, RepL K N H ds vs → RepL K N H es ws → RepL K N H (ds ++ es) (vs ++ ws)
  | [], es, vs, ws, h, g => by
    have e : vs = [] := h
    rw [e]
    exact g
  | d :: ds, es, vs, ws, h, g => by
    obtain ⟨v, r, e1, h1, h2⟩ := h
    subst e1
    exact ⟨v, r ++ ws, rfl, h1, RepL.append h2 g⟩
theorem RepL.get : ∀ {ds : List D} {vs : List V} {i : Nat} {d : D}, RepL K N H ds vs → ds[i]? = some d → ∃ v, vs[i]? = some v ∧ Rep K N H d v
  | [], _, i, d, _, g => by simp at g
  | e :: ds, vs, 0, d, h, g => by
    obtain ⟨v, r, e1, h1, h2⟩ := h
    subst e1
    have q : e = d := by simpa using g
    subst q
    exact ⟨v, rfl, h1⟩
  | e :: ds, vs, i + 1, d, h, g => by
    obtain ⟨v, r, e1, h1, h2⟩ := h
    subst e1
    obtain ⟨u, q1, q2⟩ := RepL.get (i := i) (d := d) h2 (by simpa using g)
    exact ⟨u, by simpa using q1, q2⟩
theorem RepL.getV {ds : List D} {vs : List V} {i : Nat} {v : V} (h : RepL K N H ds vs) (g : vs[i]? = some v) : ∃ d, ds[i]? = some d ∧ Rep K N H d v := by
  have hi : i < vs.length := (List.getElem?_eq_some_iff.mp g).1
  have hj : i < ds.length := by rw [h.length]; exact hi
  obtain ⟨u, q1, q2⟩ := h.get (List.getElem?_eq_getElem hj)
  rw [g] at q1
  cases q1
  exact ⟨_, List.getElem?_eq_getElem hj, q2⟩
theorem RepL.take : ∀ {ds : List D} {vs : List V} (n : Nat), RepL K N H ds vs → RepL K N H (ds.take n) (vs.take n)
  | ds, vs, 0, h => by
    rw [List.take_zero, List.take_zero]
    exact .nil
  | [], vs, n + 1, h => by
    have e : vs = [] := h
    rw [e]
    exact .nil
  | d :: ds, vs, n + 1, h => by
    obtain ⟨v, r, e1, h1, h2⟩ := h
    subst e1
    exact .cons h1 (RepL.take n h2)
theorem RepL.drop : ∀ {ds : List D} {vs : List V} (n : Nat), RepL K N H ds vs → RepL K N H (ds.drop n) (vs.drop n)
  | ds, vs, 0, h => h
  | [], vs, n + 1, h => by
    have e : vs = [] := h
    rw [e]
    exact .nil
  | d :: ds, vs, n + 1, h => by
    obtain ⟨v, r, e1, h1, h2⟩ := h
    subst e1
    exact RepL.drop n h2
theorem RepL.erase : ∀ {ds : List D} {vs : List V} (n : Nat), RepL K N H ds vs → RepL K N H (ds.eraseIdx n) (vs.eraseIdx n)
  | [], vs, n, h => by
    have e : vs = [] := h
    rw [e]
    exact .nil
  | d :: ds, vs, 0, h => by
    obtain ⟨v, r, e1, h1, h2⟩ := h
    subst e1
    exact h2
  | d :: ds, vs, n + 1, h => by
    obtain ⟨v, r, e1, h1, h2⟩ := h
    subst e1
    exact .cons h1 (RepL.erase n h2)
theorem RepL.reverse : ∀ {ds : List D} {vs : List V}, RepL K N H ds vs → RepL K N H ds.reverse vs.reverse
  | [], vs, h => by
    have e : vs = [] := h
    rw [e]
    exact .nil
  | d :: ds, vs, h => by
    obtain ⟨v, r, e1, h1, h2⟩ := h
    subst e1
    rw [List.reverse_cons, List.reverse_cons]
    exact (RepL.reverse h2).append (.one h1)
theorem repL_ints : ∀ {ns : List Int} {vs : List V}, RepL K N H (ns.map D.int) vs → vs = ns.map V.int
  | [], vs, h => h
  | n :: ns, vs, h => by
    obtain ⟨v, r, e1, h1, h2⟩ := h
    have e2 : v = .int n := h1
    rw [e1, e2, repL_ints h2]
    rfl
theorem repL_of_ints : ∀ (ns : List Int), RepL K N H (ns.map D.int) (ns.map V.int)
  | [] => rfl
  | n :: ns => ⟨.int n, ns.map V.int, rfl, rfl, repL_of_ints ns⟩
theorem repL_strs : ∀ {ns : List Str} {vs : List V}, RepL K N H (ns.map D.str) vs → vs = ns.map V.str
  | [], vs, h => h
  | n :: ns, vs, h => by
    obtain ⟨v, r, e1, h1, h2⟩ := h
    have e2 : v = .str n := h1
    rw [e1, e2, repL_strs h2]
    rfl
theorem repL_of_strs : ∀ (ns : List Str), RepL K N H (ns.map D.str) (ns.map V.str)
  | [] => rfl
  | n :: ns => ⟨.str n, ns.map V.str, rfl, rfl, repL_of_strs ns⟩
theorem repL_bls : ∀ {ns : List Bool} {vs : List V}, RepL K N H (ns.map D.bl) vs → vs = ns.map V.bl
  | [], vs, h => h
  | n :: ns, vs, h => by
    obtain ⟨v, r, e1, h1, h2⟩ := h
    have e2 : v = .bl n := h1
    rw [e1, e2, repL_bls h2]
    rfl
end
end Dw

namespace Dw
open PySem PySem.Spec PyProof.Rows L2

/-- what is fixed through a def: the read part, the heap at the entry, what the def may turn (F0, kept by I), what its results must not hold (F) -/
structure Md where
  K : PySem.W.Frag
  H0 : Hp
  F0 : No
  F : No
  I : Hp → Prop
  f0 : ∀ a, F0 a → F a
  tr : ∀ a, F a → H0 a ≠ none
  st : ∀ H H', I H → (∀ a o, F0 a → H a = some o → H' a = some o) → I H'
  tk : ∀ H a, I H → F0 a → H a ≠ none

/-- a slot: unknown, data, a list of one's own at p -/
inductive Sl where
  | un
  | d (x : D)
  | mu (p : Addr) (xs : List D)

/-- forbidden: F and one's own lists -/
def nf (M : Md) (O : List Addr) : No := fun a => M.F a ∨ a ∈ O
def SlR (M : Md) (O : List Addr) (H : Hp) (v : Option (Option V)) : Sl → Prop
  | .un => True
  | .d x => ∃ u, v = some (some u) ∧ Rep M.K (nf M O) H x u
  | .mu p xs => v = some (some (.ref p)) ∧ p ∈ O ∧ ∃ vs, H p = some (.lst vs) ∧ RepL M.K (nf M O) H xs vs

structure Rp (M : Md) (O : List Addr) (r : List Sl) (σ : L2.St) (H : Hp) : Prop where
  sm : Sm M.F0 M.H0 H
  inv : M.I H
  own : ∀ p ∈ O, M.H0 p = none ∧ H p ≠ none
  nod : O.Nodup
  len : σ.length = r.length
  slot : ∀ (i : Nat) (s : Sl), r[i]? = some s → SlR M O H σ[i]? s
  one : ∀ (i j : Nat) (p : Addr) (xs ys : List D), r[i]? = some (.mu p xs) → r[j]? = some (.mu p ys) → i = j

theorem nf0 {M : Md} {O : List Addr} : ∀ a, M.F0 a → nf M O a := fun a h => .inl (M.f0 a h)
theorem Rep.step {M : Md} {O : List Addr} {H H' : Hp} {d : D} {v : V} (e : Sm M.F0 H H') (h : Rep M.K (nf M O) H d v) : Rep M.K (nf M O) H' d v := h.mono (e.wide nf0)
theorem RepL.step {M : Md} {O : List Addr} {H H' : Hp} {d : List D} {v : List V} (e : Sm M.F0 H H') (h : RepL M.K (nf M O) H d v) : RepL M.K (nf M O) H' d v := h.mono (e.wide nf0)

/-- an expression gives data of which k holds; slots and own lists stay -/
def De (M : Md) (te : TE) (O : List Addr) (r : List Sl) (k : D → Prop) : Prop :=
  ∀ σ H (Q : VK), Rp M O r σ H → (∀ v H' d, Rp M O r σ H' → Sm M.F0 H H' → Rep M.K (nf M O) H' d v → k d → Q v H') → te σ H Q
def DT (M : Md) (tt : TT) (O : List Addr) (r : List Sl) (k : Bool → Prop) : Prop :=
  ∀ σ H (Q : Bool → Hp → Prop), Rp M O r σ H → (∀ b H', Rp M O r σ H' → Sm M.F0 H H' → k b → Q b H') → tt σ H Q
def DA (M : Md) (ta : TA) (O : List Addr) (r : List Sl) (k : List D → Prop) : Prop :=
  ∀ σ H (Q : List V → Hp → Prop), Rp M O r σ H → (∀ vs H' ds, Rp M O r σ H' → Sm M.F0 H H' → RepL M.K (nf M O) H' ds vs → k ds → Q vs H') → ta σ H Q
/-- what is wanted behind a statement -/
structure Kn where
  nx : List Addr → List Sl → Prop
  rt : D → Prop
  bk : List Addr → List Sl → Prop := fun _ _ => False
  ct : List Addr → List Sl → Prop := fun _ _ => False
/-- what a block may turn: the footprint, own lists -/
def st (M : Md) (O : List Addr) : No := fun a => M.F0 a ∨ a ∈ O
/-- .. and it may have new ones -/
def Stp (M : Md) (O : List Addr) (H : Hp) (O' : List Addr) (H' : Hp) : Prop := Sm (st M O) H H' ∧ (∀ p ∈ O', p ∈ O ∨ H p = none) ∧ ∀ a, H a ≠ none → H' a ≠ none
structure EndsOk (M : Md) (O : List Addr) (H : Hp) (E : Kn) (Z : Ends) : Prop where
  nx : ∀ O1 r σ H1, Rp M O1 r σ H1 → Stp M O H O1 H1 → E.nx O1 r → Z.nx σ H1
  rt : ∀ v H d, Sm M.F0 M.H0 H → M.I H → Rep M.K M.F H d v → E.rt d → Z.rt v H
  bk : ∀ O1 r σ H1, Rp M O1 r σ H1 → Stp M O H O1 H1 → E.bk O1 r → Z.bk σ H1
  ct : ∀ O1 r σ H1, Rp M O1 r σ H1 → Stp M O H O1 H1 → E.ct O1 r → Z.ct σ H1
def DS (M : Md) (ts : TS) (O : List Addr) (r : List Sl) (E : Kn) : Prop :=
  ∀ σ H Z, Rp M O r σ H → EndsOk M O H E Z → ts Z σ H

section
variable {M : Md} {O : List Addr} {r : List Sl} {σ : L2.St} {H H' : Hp}
theorem new_no (R : Rp M O r σ H) {p : Addr} (n : H p = none) : ¬ nf M O p := by
  rintro (h | h)
  · by_cases q : M.F0 p
    · exact M.tk H p R.inv q n
    · cases e : M.H0 p with
      | none => exact M.tr p h e
      | some o =>
        have := R.sm p o q e
        rw [n] at this
        cases this
  · exact (R.own p h).2 n
theorem nf_tr (R : Rp M O r σ H) : ∀ a, nf M O a → H a ≠ none := fun a h n => new_no R n h
/-- the heap grows or the def's own footprint turns; own lists stay -/
theorem Rp.step (R : Rp M O r σ H) (e : Sm M.F0 H H') (i : M.I H') : Rp M O r σ H' := by
  have nO : ∀ p ∈ O, ¬ M.F0 p := fun p hp z => M.tr p (M.f0 p z) (R.own p hp).1
  refine ⟨R.sm.trans e, i, fun p hp => ⟨(R.own p hp).1, ?_⟩, R.nod, R.len, fun j s hs => ?_, R.one⟩
  · cases q : H p with
    | none => exact absurd q (R.own p hp).2
    | some o =>
      rw [e p o (nO p hp) q]
      exact fun z => nomatch z
  · have h := R.slot j s hs
    cases s with
    | un => trivial
    | d x =>
      obtain ⟨u, e1, h1⟩ := h
      exact ⟨u, e1, h1.mono (e.wide fun a z => .inl (M.f0 a z))⟩
    | mu p xs =>
      obtain ⟨e1, hp, vs, h1, h2⟩ := h
      exact ⟨e1, hp, vs, e p _ (nO p hp) h1, h2.mono (e.wide fun a z => .inl (M.f0 a z))⟩
theorem Rp.grow (R : Rp M O r σ H) (e : Sm (fun _ => False) H H') : Rp M O r σ H' :=
  R.step (e.wide fun _ z => z.elim) (M.st H H' R.inv fun a o _ h => e a o (fun z => z) h)
theorem sm_0 {N : No} (e : Sm (fun _ => False) H H') : Sm N H H' := e.wide fun _ z => z.elim
theorem sm_new {p : Addr} {o : HO} (n : H p = none) : Sm (fun _ => False) H (upd H p o) := Sm.new n
theorem sm_st (e : Sm M.F0 H H') : Sm (st M O) H H' := e.wide fun _ z => .inl z

/-! ### expressions -/
variable {k : D → Prop} {ta tb te : TE} {tt : TT} {tl : TA}
theorem De.imp {k' : D → Prop} (h : De M te O r k) (i : ∀ d, k d → k' d) : De M te O r k' := fun σ H Q R z => h σ H Q R fun v H1 d R1 e1 p1 q1 => z v H1 d R1 e1 p1 (i d q1)
theorem DT.imp {k k' : Bool → Prop} (h : DT M tt O r k) (i : ∀ d, k d → k' d) : DT M tt O r k' := fun σ H Q R z => h σ H Q R fun b H1 R1 e1 q1 => z b H1 R1 e1 (i b q1)
theorem DA.imp {k k' : List D → Prop} (h : DA M tl O r k) (i : ∀ d, k d → k' d) : DA M tl O r k' := fun σ H Q R z => h σ H Q R fun v H1 d R1 e1 p1 q1 => z v H1 d R1 e1 p1 (i d q1)
theorem de_var {i : Nat} {x : D} (h : r[i]? = some (.d x)) (q : k x) : De M (tVar i) O r k := fun σ H Q R z => by
  obtain ⟨u, e, h1⟩ := R.slot i _ h
  exact ⟨u, e, z u H x R .refl h1 q⟩
theorem de_int {i : Int} (q : k (.int i)) : De M (tC (.int i)) O r k := fun σ H Q R z => z (.int i) H (.int i) R .refl rfl q
theorem de_bl {i : Bool} (q : k (.bl i)) : De M (tC (.bl i)) O r k := fun σ H Q R z => z (.bl i) H (.bl i) R .refl rfl q
theorem de_str {i : Str} (q : k (.str i)) : De M (tC (.str i)) O r k := fun σ H Q R z => z (.str i) H (.str i) R .refl rfl q
theorem de_non (q : k .non) : De M (tC .non) O r k := fun σ H Q R z => z .non H .non R .refl rfl q
/-- a constant of the module -/
theorem de_c {v : V} (d : D) (h : ∀ N H, Rep M.K N H d v) (q : k d) : De M (tC v) O r k := fun σ H Q R z => z v H d R .refl (h _ _) q
/-- two operands, then what the operator asks of the values -/
theorem de_op {f : R2} (h : De M ta O r fun x => De M tb O r fun y => ∀ σ H v u (Q : VK), Rp M O r σ H → Rep M.K (nf M O) H x v → Rep M.K (nf M O) H y u →
    (∀ w H' d, Rp M O r σ H' → Sm M.F0 H H' → Rep M.K (nf M O) H' d w → k d → Q w H') → f v u H Q) : De M (tOp f ta tb) O r k := fun σ H Q R z => by
  refine h σ H _ R fun v H1 x R1 e1 p1 h1 => ?_
  refine h1 σ H1 _ R1 fun u H2 y R2 e2 p2 h2 => ?_
  exact h2 σ H2 v u Q R2 (p1.step e2) p2 fun w H3 d R3 e3 p3 q3 => z w H3 d R3 ((e1.trans e2).trans e3) p3 q3
theorem de_op2 {f : R2} {C : D → D → Prop} (h : De M ta O r fun x => De M tb O r fun y => C x y) (hc : ∀ x y, C x y → ∀ σ H v u (Q : VK), Rp M O r σ H → Rep M.K (nf M O) H x v → Rep M.K (nf M O) H y u →
    (∀ w H' d, Rp M O r σ H' → Sm M.F0 H H' → Rep M.K (nf M O) H' d w → k d → Q w H') → f v u H Q) : De M (tOp f ta tb) O r k :=
  de_op (h.imp fun x h1 => h1.imp fun y h2 => hc x y h2)
theorem de_rI0 {g : Int → Int → V} (G : Int → Int → D) (hg : ∀ i j N H, Rep M.K N H (G i j) (g i j)) (h : De M ta O r fun x => De M tb O r fun y => ∃ i j, x = .int i ∧ y = .int j ∧ k (G i j)) : De M (tOp (rI0 g) ta tb) O r k := de_op2 h fun x y c σ H v u Q R pv pu z => by
  obtain ⟨i, j, rfl, rfl, q⟩ := c
  exact ⟨i, j, pv, pu, z _ H _ R .refl (hg i j _ _) q⟩
theorem de_rI {C : Int → Int → Prop} {g : Int → Int → V} (G : Int → Int → D) (hg : ∀ i j N H, Rep M.K N H (G i j) (g i j)) (h : De M ta O r fun x => De M tb O r fun y => ∃ i j, x = .int i ∧ y = .int j ∧ C i j ∧ k (G i j)) : De M (tOp (rI C g) ta tb) O r k := de_op2 h fun x y c σ H v u Q R pv pu z => by
  obtain ⟨i, j, rfl, rfl, c, q⟩ := c
  exact ⟨i, j, pv, pu, c, z _ H _ R .refl (hg i j _ _) q⟩
theorem de_intI {g : Int → Int → Int} (h : De M ta O r fun x => De M tb O r fun y => ∃ i j, x = .int i ∧ y = .int j ∧ k (.int (g i j))) : De M (tOp (rI0 fun i j => .int (g i j)) ta tb) O r k := de_rI0 (fun i j => .int (g i j)) (fun _ _ _ _ => rfl) h
theorem de_intB {g : Int → Int → Bool} (h : De M ta O r fun x => De M tb O r fun y => ∃ i j, x = .int i ∧ y = .int j ∧ k (.bl (g i j))) : De M (tOp (rI0 fun i j => .bl (g i j)) ta tb) O r k := de_rI0 (fun i j => .bl (g i j)) (fun _ _ _ _ => rfl) h
theorem de_intC {C : Int → Int → Prop} {g : Int → Int → Int} (h : De M ta O r fun x => De M tb O r fun y => ∃ i j, x = .int i ∧ y = .int j ∧ C i j ∧ k (.int (g i j))) : De M (tOp (rI C fun i j => .int (g i j)) ta tb) O r k := de_rI (fun i j => .int (g i j)) (fun _ _ _ _ => rfl) h
/-- scalars compared -/
def D.v : D → Option V
  | .non => some .non
  | .bl b => some (.bl b)
  | .int i => some (.int i)
  | .str s => some (.str s)
  | _ => none
theorem D.v_rep {K : PySem.W.Frag} {N : No} {H : Hp} {d : D} {x v : V} (h : d.v = some x) (p : Rep K N H d v) : v = x := by
  cases d <;> first
    | (cases h; exact p)
    | cases h
theorem de_eq (h : De M ta O r fun x => De M tb O r fun y => ∃ a b, x.v = some a ∧ y.v = some b ∧ scal a b = true ∧ k (.bl (decide (a = b)))) : De M (tOp rEq ta tb) O r k := de_op2 h fun x y c σ H v u Q R pv pu z => by
  obtain ⟨a, b, ha, hb, hs, q⟩ := c
  rw [D.v_rep ha pv, D.v_rep hb pu]
  exact ⟨hs, z _ H (.bl (decide (a = b))) R .refl rfl q⟩
theorem de_ne (h : De M ta O r fun x => De M tb O r fun y => ∃ a b, x.v = some a ∧ y.v = some b ∧ scal a b = true ∧ k (.bl (!decide (a = b)))) : De M (tOp rNe ta tb) O r k := de_op2 h fun x y c σ H v u Q R pv pu z => by
  obtain ⟨a, b, ha, hb, hs, q⟩ := c
  rw [D.v_rep ha pv, D.v_rep hb pu]
  exact ⟨hs, z _ H (.bl (!decide (a = b))) R .refl rfl q⟩
theorem de_un {g : Int → V} (G : Int → D) (hg : ∀ i N H, Rep M.K N H (G i) (g i)) (h : De M ta O r fun x => ∃ i, x = .int i ∧ k (G i)) : De M (tUn (rU g) ta) O r k := fun σ H Q R z => by
  refine h σ H _ R fun v H1 x R1 e1 p1 h1 => ?_
  obtain ⟨i, rfl, q⟩ := h1
  exact ⟨i, p1, z _ H1 _ R1 e1 (hg i _ _) q⟩

/-! ### arguments, displays -/
theorem da_nil {k : List D → Prop} (q : k []) : DA M tNil O r k := fun σ H Q R z => z [] H [] R .refl .nil q
theorem da_cons {k : List D → Prop} (h : De M te O r fun x => DA M tl O r fun xs => k (x :: xs)) : DA M (tCons te tl) O r k := fun σ H Q R z => by
  refine h σ H _ R fun v H1 x R1 e1 p1 h1 => ?_
  exact h1 σ H1 _ R1 fun vs H2 xs R2 e2 p2 q2 => z (v :: vs) H2 (x :: xs) R2 (e1.trans e2) (.cons (p1.step e2) p2) q2
theorem rep_lst (R : Rp M O r σ H) {p : Addr} {ds : List D} {vs : List V} (hp : H p = none) (h : RepL M.K (nf M O) H ds vs) : Rep M.K (nf M O) (upd H p (.lst vs)) (.lst ds) (.ref p) :=
  ⟨p, vs, rfl, .inl ⟨new_no R hp, .inl upd_same⟩, h.step (sm_0 (sm_new hp))⟩
theorem rep_tup (R : Rp M O r σ H) {p : Addr} {ds : List D} {vs : List V} (hp : H p = none) (h : RepL M.K (nf M O) H ds vs) : Rep M.K (nf M O) (upd H p (.tup vs)) (.tup ds) (.ref p) :=
  ⟨p, vs, rfl, .inl ⟨new_no R hp, .inl upd_same⟩, h.step (sm_0 (sm_new hp))⟩
theorem de_lst (h : DA M tl O r fun ds => ds.length ≤ sizeLine ∧ k (.lst ds)) : De M (tLst tl) O r k := fun σ H Q R z => by
  refine h σ H _ R fun vs H1 ds R1 e1 p1 q => ⟨by rw [← p1.length]; exact q.1, fun p hp => ?_⟩
  exact z _ _ (.lst ds) (R1.grow (sm_new hp)) (e1.trans (sm_0 (sm_new hp))) (rep_lst R1 hp p1) q.2
theorem de_tup (h : DA M tl O r fun ds => ds.length ≤ sizeLine ∧ k (.tup ds)) : De M (tTup tl) O r k := fun σ H Q R z => by
  refine h σ H _ R fun vs H1 ds R1 e1 p1 q => ⟨by rw [← p1.length]; exact q.1, fun p hp => ?_⟩
  exact z _ _ (.tup ds) (R1.grow (sm_new hp)) (e1.trans (sm_0 (sm_new hp))) (rep_tup R1 hp p1) q.2

/-! ### tests -/
variable {kt : Bool → Prop} {tu : TT}
theorem dt_test (h : De M te O r fun x => ∃ b, x = .bl b ∧ kt b) : DT M (tTest te) O r kt := fun σ H Q R z => h σ H _ R fun v H1 x R1 e1 p1 h1 => by
  obtain ⟨b, rfl, q⟩ := h1
  exact ⟨b, p1, z b H1 R1 e1 q⟩
theorem dt_B (h : De M te O r fun x => ∃ b, x = .bl b ∧ kt b) : DT M (tB te) O r kt := fun σ H Q R z => h σ H _ R fun v H1 x R1 e1 p1 h1 => by
  obtain ⟨b, rfl, q⟩ := h1
  exact ⟨b, p1, z b H1 R1 e1 q⟩
theorem dt_and (h : DT M tt O r fun b => if b = true then DT M tu O r kt else kt false) : DT M (tAnd tt tu) O r kt := fun σ H Q R z => h σ H _ R fun b H1 R1 e1 q1 => by
  cases b with
  | true =>
    show tu σ H1 Q
    exact q1 σ H1 Q R1 fun b H2 R2 e2 q2 => z b H2 R2 (e1.trans e2) q2
  | false =>
    show Q false H1
    exact z false H1 R1 e1 q1
theorem dt_or (h : DT M tt O r fun b => if b = true then kt true else DT M tu O r kt) : DT M (tOr tt tu) O r kt := fun σ H Q R z => h σ H _ R fun b H1 R1 e1 q1 => by
  cases b with
  | false =>
    show tu σ H1 Q
    exact q1 σ H1 Q R1 fun b H2 R2 e2 q2 => z b H2 R2 (e1.trans e2) q2
  | true =>
    show Q true H1
    exact z true H1 R1 e1 q1
theorem dt_not (h : DT M tt O r fun b => kt (!b)) : DT M (tNot tt) O r kt := fun σ H Q R z => h σ H _ R fun b H1 R1 e1 q1 => z _ H1 R1 e1 q1
theorem de_if (h : DT M tt O r fun b => if b = true then De M ta O r k else De M tb O r k) : De M (tIf tt ta tb) O r k := fun σ H Q R z => h σ H _ R fun b H1 R1 e1 q1 => by
  cases b with
  | true =>
    show ta σ H1 Q
    exact q1 σ H1 Q R1 fun v H2 d R2 e2 p2 q2 => z v H2 d R2 (e1.trans e2) p2 q2
  | false =>
    show tb σ H1 Q
    exact q1 σ H1 Q R1 fun v H2 d R2 e2 p2 q2 => z v H2 d R2 (e1.trans e2) p2 q2
theorem de_andV (h : De M ta O r fun x => ∃ b, x = .bl b ∧ if b = true then De M tb O r k else k (.bl false)) : De M (tAndV ta tb) O r k := fun σ H Q R z => h σ H _ R fun v H1 x R1 e1 p1 h1 => by
  obtain ⟨b, rfl, q⟩ := h1
  refine ⟨b, p1, ?_⟩
  cases b with
  | true => exact q σ H1 Q R1 fun v H2 d R2 e2 p2 q2 => z v H2 d R2 (e1.trans e2) p2 q2
  | false => exact z (.bl false) H1 (.bl false) R1 e1 rfl q
theorem de_orV (h : De M ta O r fun x => ∃ b, x = .bl b ∧ if b = true then k (.bl true) else De M tb O r k) : De M (tOrV ta tb) O r k := fun σ H Q R z => h σ H _ R fun v H1 x R1 e1 p1 h1 => by
  obtain ⟨b, rfl, q⟩ := h1
  refine ⟨b, p1, ?_⟩
  cases b with
  | false => exact q σ H1 Q R1 fun v H2 d R2 e2 p2 q2 => z v H2 d R2 (e1.trans e2) p2 q2
  | true => exact z (.bl true) H1 (.bl true) R1 e1 rfl q
theorem de_notV (h : De M ta O r fun x => ∃ b, x = .bl b ∧ k (.bl (!b))) : De M (tNotV ta) O r k := fun σ H Q R z => h σ H _ R fun v H1 x R1 e1 p1 h1 => by
  obtain ⟨b, rfl, q⟩ := h1
  exact ⟨b, p1, z _ H1 (.bl (!b)) R1 e1 rfl q⟩

/-! ### statements -/
theorem Stp.refl : Stp M O H O H := ⟨.refl, fun _ h => .inl h, fun _ h => h⟩
theorem Rp.stays (R' : Rp M O r σ H') (e : Sm (st M O) H H') : ∀ a, H a ≠ none → H' a ≠ none := fun a h => by
  by_cases q : st M O a
  · rcases q with q | q
    · exact M.tk H' a R'.inv q
    · exact (R'.own a q).2
  · cases e1 : H a with
    | none => exact absurd e1 h
    | some o =>
      rw [e a o q e1]
      exact fun z => nomatch z
theorem Rp.stp (R' : Rp M O r σ H') (e : Sm M.F0 H H') : Stp M O H O H' := ⟨sm_st e, fun _ h => .inl h, R'.stays (sm_st e)⟩
theorem Stp.trans {O1 O2 : List Addr} {H1 H2 : Hp} (i : M.I H1) (a : Stp M O H O1 H1) (b : Stp M O1 H1 O2 H2) : Stp M O H O2 H2 := by
  refine ⟨fun x o n e => b.1 x o (fun z => ?_) (a.1 x o n e), fun p hp => ?_, fun x h => b.2.2 x (a.2.2 x h)⟩
  · rcases z with z | z
    · exact n (.inl z)
    · rcases a.2.1 x z with q | q
      · exact n (.inr q)
      · rw [e] at q
        cases q
  · rcases b.2.1 p hp with q | q
    · exact a.2.1 p q
    · right
      cases e : H p with
      | none => rfl
      | some o => exact absurd q (a.2.2 p (by rw [e]; exact fun z => nomatch z))
variable {E : Kn} {ts tz : TS}
/-- the ends, told from a later state -/
theorem EndsOk.later {Z : Ends} {O1 : List Addr} {H1 : Hp} (i : M.I H1) (z : EndsOk M O H E Z) (a : Stp M O H O1 H1) : EndsOk M O1 H1 E Z :=
  ⟨fun O2 r σ H2 R b q => z.nx O2 r σ H2 R (a.trans i b) q, z.rt, fun O2 r σ H2 R b q => z.bk O2 r σ H2 R (a.trans i b) q, fun O2 r σ H2 R b q => z.ct O2 r σ H2 R (a.trans i b) q⟩
theorem ds_seq (h : DS M ts O r { E with nx := fun O1 r1 => DS M tz O1 r1 E }) : DS M (tSeq ts tz) O r E := fun σ H Z R z =>
  h σ H _ R ⟨fun O1 r1 σ1 H1 R1 a q => q σ1 H1 Z R1 (z.later R1.inv a), z.rt, z.bk, z.ct⟩
theorem ds_next (h : E.nx O r) : DS M tNext O r E := fun σ H Z R z => z.nx O r σ H R .refl h
theorem ds_ret (h : De M te O r E.rt) : DS M (tRet te) O r E := fun σ H Z R z =>
  h σ H _ R fun v H1 d R1 e1 p1 q => z.rt v H1 d R1.sm R1.inv (p1.less fun a h => .inl h) q
theorem ds_retN (h : E.rt .non) : DS M tRetN O r E := fun σ H Z R z => z.rt .non H .non R.sm R.inv rfl h
theorem ds_if (h : DT M tt O r fun b => if b = true then DS M ts O r E else DS M tz O r E) : DS M (tIfS tt ts tz) O r E := fun σ H Z R z => h σ H _ R fun b H1 R1 e1 q1 => by
  cases b with
  | true =>
    show ts Z σ H1
    exact q1 σ H1 Z R1 (z.later R1.inv (R1.stp e1))
  | false =>
    show tz Z σ H1
    exact q1 σ H1 Z R1 (z.later R1.inv (R1.stp e1))
theorem ds_drop (h : De M te O r fun _ => E.nx O r) : DS M (tDrop te) O r E := fun σ H Z R z => h σ H _ R fun v H1 d R1 e1 p1 q => z.nx O r σ H1 R1 (R1.stp e1) q
theorem ds_break (h : E.bk O r) : DS M tBreak O r E := fun σ H Z R z => z.bk O r σ H R .refl h
theorem ds_cont (h : E.ct O r) : DS M tCont O r E := fun σ H Z R z => z.ct O r σ H R .refl h
/-- a slot told anew -/
theorem Rp.set {i : Nat} {v : V} {s : Sl} (R : Rp M O r σ H) (hs : SlR M O H (some (some v)) s) (hm : ∀ p xs, s = .mu p xs → ∀ (j : Nat) (ys : List D), j ≠ i → r[j]? ≠ some (.mu p ys)) : Rp M O (r.set i s) (σ.set i (some v)) H := by
  refine ⟨R.sm, R.inv, R.own, R.nod, by rw [List.length_set, List.length_set]; exact R.len, fun j t ht => ?_, fun j l p xs ys h1 h2 => ?_⟩
  · by_cases e : i = j
    · subst e
      by_cases hi : i < r.length
      · rw [List.getElem?_set_self hi] at ht
        cases ht
        rw [List.getElem?_set_self (by rw [R.len]; exact hi)]
        exact hs
      · rw [List.getElem?_eq_none (by rw [List.length_set]; omega)] at ht
        cases ht
    · rw [List.getElem?_set_ne e] at ht
      rw [List.getElem?_set_ne e]
      exact R.slot j t ht
  · by_cases e1 : i = j
    · subst e1
      by_cases e2 : i = l
      · exact e2
      · rw [List.getElem?_set_ne e2] at h2
        have hi : i < r.length := by
          refine Nat.lt_of_not_le fun q => ?_
          rw [List.getElem?_eq_none (by rw [List.length_set]; exact q)] at h1
          cases h1
        rw [List.getElem?_set_self hi] at h1
        cases h1
        exact absurd h2 (hm p xs rfl l ys fun z => e2 z.symm)
    · rw [List.getElem?_set_ne e1] at h1
      by_cases e2 : i = l
      · subst e2
        have hi : i < r.length := by
          refine Nat.lt_of_not_le fun q => ?_
          rw [List.getElem?_eq_none (by rw [List.length_set]; exact q)] at h2
          cases h2
        rw [List.getElem?_set_self hi] at h2
        cases h2
        exact absurd h1 (hm p ys rfl j xs fun z => e1 z.symm)
      · rw [List.getElem?_set_ne e2] at h2
        exact R.one j l p xs ys h1 h2
theorem ds_asg {i : Nat} (h : De M te O r fun d => E.nx O (r.set i (.d d))) : DS M (tAsg te (gName i)) O r E := fun σ H Z R z =>
  h σ H _ R fun v H1 d R1 e1 p1 q => z.nx O _ _ H1 (R1.set (s := .d d) ⟨v, rfl, p1⟩ (fun p xs e => nomatch e)) (R1.stp e1) q
theorem plus_of {p : Addr} : ∀ a, nf M (p :: O) a → plus (nf M O) p a := fun a ha => by
  rcases ha with ha | ha
  · exact .inl (.inl ha)
  · rcases List.mem_cons.mp ha with rfl | ha
    · exact .inr rfl
    · exact .inl (.inr ha)
theorem RepL.own1 {p : Addr} {o : HO} {ds : List D} {vs : List V} (hp : H p = none) (h : RepL M.K (nf M O) H ds vs) : RepL M.K (nf M (p :: O)) (upd H p o) ds vs := ((h.more hp).less plus_of).mono ((sm_new hp).wide fun _ z => z.elim)
theorem Rep.own1 {p : Addr} {o : HO} {d : D} {v : V} (hp : H p = none) (h : Rep M.K (nf M O) H d v) : Rep M.K (nf M (p :: O)) (upd H p o) d v := ((h.more hp).less plus_of).mono ((sm_new hp).wide fun _ z => z.elim)
theorem free0 (R : Rp M O r σ H) {p : Addr} (hp : H p = none) : M.H0 p = none := by
  cases e : M.H0 p with
  | none => rfl
  | some o =>
    by_cases q : M.F0 p
    · exact absurd hp (M.tk H p R.inv q)
    · have := R.sm p o q e
      rw [hp] at this
      cases this
/-- a new address, one's own -/
theorem Rp.own1 {p : Addr} {o : HO} (R : Rp M O r σ H) (hp : H p = none) : Rp M (p :: O) r σ (upd H p o) := by
  have g : Sm (fun _ => False) H (upd H p o) := sm_new hp
  have R2 := R.grow g
  have nO : p ∉ O := fun z => (R.own p z).2 hp
  refine ⟨R2.sm, R2.inv, fun a ha => ?_, List.nodup_cons.mpr ⟨nO, R2.nod⟩, R2.len, fun j t ht => ?_, R2.one⟩
  · rcases List.mem_cons.mp ha with rfl | ha
    · exact ⟨free0 R hp, by rw [upd_same]; exact fun z => nomatch z⟩
    · exact R2.own a ha
  · have h1 := R.slot j t ht
    cases t with
    | un => trivial
    | d x =>
      obtain ⟨u, e2, h2⟩ := h1
      exact ⟨u, e2, h2.own1 hp⟩
    | mu l xs =>
      obtain ⟨e2, hl, ws, h2, h3⟩ := h1
      exact ⟨e2, List.mem_cons_of_mem _ hl, ws, g l _ (fun z => z) h2, h3.own1 hp⟩
theorem stp_new {H1 : Hp} (R1 : Rp M O r σ H1) (e1 : Sm M.F0 H H1) {p : Addr} {o : HO} (hp : H1 p = none) : Stp M O H (p :: O) (upd H1 p o) := by
  have i := R1.inv
  refine ⟨(sm_st e1).trans (sm_0 (sm_new hp)), fun a ha => ?_, fun a h => ?_⟩
  rcases List.mem_cons.mp ha with rfl | ha
  · right
    cases e : H a with
    | none => rfl
    | some o =>
      by_cases q : M.F0 a
      · exact absurd hp (M.tk H1 a i q)
      · rw [e1 a o q e] at hp
        cases hp
  · exact .inl ha
  · have h2 := R1.stays (sm_st e1) a h
    by_cases q : a = p
    · rw [q, upd_same]
      exact fun z => nomatch z
    · rw [upd_ne q]
      exact h2
/-- a new list of one's own: name = [..] -/
theorem ds_own {i : Nat} (h : DA M tl O r fun ds => ds.length ≤ sizeLine ∧ ∀ p, p ∉ O → E.nx (p :: O) (r.set i (.mu p ds))) : DS M (tAsg (tLst tl) (gName i)) O r E := fun σ H Z R z =>
  h σ H _ R fun vs H1 ds R1 e1 p1 q => ⟨by rw [← p1.length]; exact q.1, fun p hp => by
    have nO : p ∉ O := fun z => (R1.own p z).2 hp
    refine z.nx _ _ _ _ ((R1.own1 hp).set (i := i) (v := .ref p) (s := .mu p ds) ⟨rfl, List.mem_cons_self, vs, upd_same, p1.own1 hp⟩ fun l xs e j ys hj hy => ?_) (stp_new R1 e1 hp) (q.2 p nO)
    cases e
    exact nO (R1.slot j _ hy).2.1⟩
/-- an own list becomes data -/
theorem Rp.freeze {i : Nat} {p : Addr} {xs : List D} (R : Rp M O r σ H) (h : r[i]? = some (.mu p xs)) : Rp M (O.erase p) (r.set i (.d (.lst xs))) σ H := by
  obtain ⟨e1, hp, vs, h1, h2⟩ := R.slot i _ h
  have hi : i < r.length := (List.getElem?_eq_some_iff.mp h).1
  have w : ∀ a, nf M (O.erase p) a → nf M O a := fun a ha => ha.imp id List.mem_of_mem_erase
  have np : ¬ nf M (O.erase p) p := by
    rintro (q | q)
    · exact M.tr p q (R.own p hp).1
    · exact (R.nod.mem_erase_iff.mp q).1 rfl
  refine ⟨R.sm, R.inv, fun a ha => R.own a (List.mem_of_mem_erase ha), R.nod.erase p, by rw [List.length_set]; exact R.len, fun j t ht => ?_, fun j l q ys zs a1 a2 => ?_⟩
  · by_cases e : i = j
    · subst e
      rw [List.getElem?_set_self hi] at ht
      cases ht
      exact ⟨.ref p, e1, p, vs, rfl, .inl ⟨np, .inl h1⟩, h2.less w⟩
    · rw [List.getElem?_set_ne e] at ht
      have q := R.slot j t ht
      cases t with
      | un => trivial
      | d x =>
        obtain ⟨u, e2, q2⟩ := q
        exact ⟨u, e2, q2.less w⟩
      | mu l ys =>
        obtain ⟨e2, hl, ws, q2, q3⟩ := q
        refine ⟨e2, R.nod.mem_erase_iff.mpr ⟨fun z => ?_, hl⟩, ws, q2, q3.less w⟩
        subst z
        exact e (R.one i j l xs ys h ht)
  · have a1' : i ≠ j := fun z => by
      subst z
      rw [List.getElem?_set_self hi] at a1
      cases a1
    have a2' : i ≠ l := fun z => by
      subst z
      rw [List.getElem?_set_self hi] at a2
      cases a2
    rw [List.getElem?_set_ne a1'] at a1
    rw [List.getElem?_set_ne a2'] at a2
    exact R.one j l q ys zs a1 a2
theorem ds_freeze (i : Nat) {p : Addr} {xs : List D} (h : r[i]? = some (.mu p xs)) (q : DS M ts (O.erase p) (r.set i (.d (.lst xs))) E) : DS M ts O r E := fun σ H Z R z => q σ H Z (R.freeze h) (z.later R.inv ⟨.refl, fun a ha => .inl (List.mem_of_mem_erase ha), fun _ h => h⟩)
/-- flat data: no object -/
def D.flat : D → Bool
  | .lst _ => false
  | .tup _ => false
  | .ins _ _ _ => false
  | .exc _ _ _ => false
  | _ => true
theorem flat_rep {K : PySem.W.Frag} {N N' : No} {H H' : Hp} {d : D} {v : V} (f : d.flat = true) (h : Rep K N H d v) : Rep K N' H' d v := by
  cases d <;> first
    | exact h
    | cases f
/-- an own list read as data, for an answer that holds no object -/
theorem de_borrow (i : Nat) {p : Addr} {xs : List D} (h : r[i]? = some (.mu p xs)) (q : De M te (O.erase p) (r.set i (.d (.lst xs))) fun d => d.flat = true ∧ k d) : De M te O r k := fun σ H Q R z => by
  refine q σ H Q (R.freeze h) fun v H1 d R1 e1 p1 q1 => ?_
  exact z v H1 d (R.step e1 R1.inv) e1 (flat_rep q1.1 p1) q1.2
theorem dt_borrow (i : Nat) {p : Addr} {xs : List D} (h : r[i]? = some (.mu p xs)) (q : DT M tt (O.erase p) (r.set i (.d (.lst xs))) kt) : DT M tt O r kt := fun σ H Q R z =>
  q σ H Q (R.freeze h) fun b H1 R1 e1 q1 => z b H1 (R.step e1 R1.inv) e1 q1
theorem DS.imp {E' : Kn} (h : DS M ts O r E) (i : ∀ O r, E.nx O r → E'.nx O r) (j : ∀ d, E.rt d → E'.rt d) (b : ∀ O r, E.bk O r → E'.bk O r) (c : ∀ O r, E.ct O r → E'.ct O r) : DS M ts O r E' := fun σ H Z R z =>
  h σ H Z R ⟨fun O1 r1 σ1 H1 R1 a q => z.nx O1 r1 σ1 H1 R1 a (i _ _ q), fun v H1 d s1 i1 p1 q => z.rt v H1 d s1 i1 p1 (j _ q), fun O1 r1 σ1 H1 R1 a q => z.bk O1 r1 σ1 H1 R1 a (b _ _ q), fun O1 r1 σ1 H1 R1 a q => z.ct O1 r1 σ1 H1 R1 a (c _ _ q)⟩
/-- an own list written -/
theorem Rp.write {i : Nat} {p : Addr} {xs ys : List D} {ws : List V} (R : Rp M O r σ H) (h : r[i]? = some (.mu p xs)) (hw : RepL M.K (nf M O) H ys ws) : Rp M O (r.set i (.mu p ys)) σ (upd H p (.lst ws)) := by
  obtain ⟨e1, hp, vs, h1, h2⟩ := R.slot i _ h
  have hi : i < r.length := (List.getElem?_eq_some_iff.mp h).1
  have fp : M.H0 p = none := (R.own p hp).1
  have e : Sm (nf M O) H (upd H p (.lst ws)) := fun a o n e => by
    rw [upd_ne fun z => n (.inr (by rw [z]; exact hp))]
    exact e
  have at' : ∀ {m : Nat} {q : Addr} {zs : List D}, (r.set i (.mu p ys))[m]? = some (.mu q zs) → (m = i ∧ q = p) ∨ (m ≠ i ∧ r[m]? = some (.mu q zs)) := fun {m q zs} a => by
    by_cases em : i = m
    · subst em
      rw [List.getElem?_set_self hi] at a
      cases a
      exact .inl ⟨rfl, rfl⟩
    · rw [List.getElem?_set_ne em] at a
      exact .inr ⟨fun z => em z.symm, a⟩
  refine ⟨fun a o n e => ?_, M.st H _ R.inv fun a o f e => ?_, fun a ha => ⟨(R.own a ha).1, ?_⟩, R.nod, by rw [List.length_set]; exact R.len, fun j t ht => ?_, fun j l q zs us a1 a2 => ?_⟩
  · rw [upd_ne (ne_of_none e fp)]
    exact R.sm a o n e
  · rw [upd_ne fun z => M.tr a (M.f0 a f) (by rw [z]; exact fp)]
    exact e
  · by_cases q : a = p
    · rw [q, upd_same]
      exact fun z => nomatch z
    · rw [upd_ne q]
      exact (R.own a ha).2
  · by_cases ej : i = j
    · subst ej
      rw [List.getElem?_set_self hi] at ht
      cases ht
      exact ⟨e1, hp, ws, upd_same, hw.mono e⟩
    · rw [List.getElem?_set_ne ej] at ht
      have h1 := R.slot j t ht
      cases t with
      | un => trivial
      | d x =>
        obtain ⟨u, e2, h2⟩ := h1
        exact ⟨u, e2, h2.mono e⟩
      | mu l zs =>
        obtain ⟨e2, hl, us, h2, h3⟩ := h1
        refine ⟨e2, hl, us, ?_, h3.mono e⟩
        rw [upd_ne fun z => by
          subst z
          exact ej (R.one i j l xs zs h ht)]
        exact h2
  · rcases at' a1 with ⟨rfl, rfl⟩ | ⟨n1, b1⟩
    · rcases at' a2 with ⟨rfl, _⟩ | ⟨n2, b2⟩
      · rfl
      · exact absurd (R.one _ _ _ _ _ h b2) fun z => n2 z.symm
    · rcases at' a2 with ⟨rfl, rfl⟩ | ⟨n2, b2⟩
      · exact absurd (R.one _ _ _ _ _ h b1) fun z => n1 z.symm
      · exact R.one j l q zs us b1 b2
theorem stp_write {i : Nat} {p : Addr} {xs : List D} {ws : List V} {H1 : Hp} (R : Rp M O r σ H1) (h : r[i]? = some (.mu p xs)) (e1 : Sm M.F0 H H1) : Stp M O H O (upd H1 p (.lst ws)) := by
  have hp := (R.slot i _ h).2.1
  refine ⟨fun a o n e => ?_, fun _ h => .inl h, fun a h => ?_⟩
  · rw [upd_ne fun z => n (.inr (by rw [z]; exact hp))]
    exact e1 a o (fun z => n (.inl z)) e
  · have h2 := R.stays (sm_st e1) a h
    by_cases q : a = p
    · rw [q, upd_same]
      exact fun z => nomatch z
    · rw [upd_ne q]
      exact h2
/-- xs.append(e) -/
theorem ds_append {i : Nat} {p : Addr} {xs : List D} (h : r[i]? = some (.mu p xs)) (hz : xs.length < sizeLine) (q : De M te O r fun d => E.nx O (r.set i (.mu p (xs ++ [d])))) :
    DS M (tDrop (tBM M.K "list" rAppend (tVar i) (tCons te tNil))) O r E := fun σ H Z R z => by
  obtain ⟨e1, hp, vs, h1, h2⟩ := R.slot i _ h
  refine ⟨.ref p, e1, .inl ⟨rfl, vs, .inl (.inl h1)⟩, ?_⟩
  refine q σ H _ R fun v H1 d R1 e2 p1 q1 => ?_
  obtain ⟨_, _, vs', h1', h2'⟩ := R1.slot i _ h
  refine ⟨p, vs', v, rfl, rfl, h1', by rw [← h2'.length]; exact hz, ?_⟩
  exact z.nx O _ σ _ (R1.write h (h2'.append (.one p1))) (stp_write R1 h e2) q1
end
end Dw

namespace Dw
open PySem PySem.Spec PyProof.Rows L2

/-! ### promises over data -/
/-- what a def may turn, told by a ghost -/
structure Sg where
  G : Type
  F0 : G → No
  I : G → Hp → Prop
  st : ∀ g H H', I g H → (∀ a o, F0 g a → H a = some o → H' a = some o) → I g H'
  tk : ∀ g H a, I g H → F0 g a → H a ≠ none
def pure0 : Sg := ⟨Unit, fun _ _ => False, fun _ _ => True, fun _ _ _ _ _ => trivial, fun _ _ _ _ h => h.elim⟩
def SpD (K : PySem.W.Frag) (S : Sg) (pre : S.G → List D → Prop) (post : S.G → List D → D → Prop) : Sp := fun vs H Q _ =>
  ∃ (g : S.G) (ds : List D) (F : No), RepL K F H ds vs ∧ (∀ a, S.F0 g a → F a) ∧ (∀ a, F a → H a ≠ none) ∧ S.I g H ∧ pre g ds ∧
    ∀ v H' d, Sm (S.F0 g) H H' → S.I g H' → Rep K F H' d v → post g ds d → Q v H'
/-- a pure def's promise -/
abbrev SpP (K : PySem.W.Frag) (pre : List D → Prop) (post : List D → D → Prop) : Sp := SpD K pure0 (fun _ => pre) (fun _ => post)

/-- the mode of a def's body -/
abbrev mdOf (K : PySem.W.Frag) (S : Sg) (g : S.G) (H : Hp) (F : No) (f0 : ∀ a, S.F0 g a → F a) (tr : ∀ a, F a → H a ≠ none) : Md :=
  ⟨K, H, S.F0 g, F, S.I g, f0, tr, S.st g, S.tk g⟩

/-- the slots at the entry -/
def startR (n : Nat) (ds : List D) : List Sl := ds.map Sl.d ++ List.replicate (n - ds.length) .un
theorem start_rp {M : Md} {N : List Str} {ds : List D} {vs : List V} (p : RepL M.K M.F M.H0 ds vs) (i : M.I M.H0) : Rp M [] (startR N.length ds) (start N vs) M.H0 := by
  have hl := p.length
  refine ⟨Sm.refl, i, (fun _ h => nomatch h), List.nodup_nil, ?_, (fun j s h => ?_), (fun j l q xs ys h _ => ?_)⟩
  · unfold L2.start startR
    rw [List.length_append, List.length_append, List.length_map, List.length_map, List.length_replicate, List.length_replicate, hl]
  · unfold startR at h
    by_cases hj : j < ds.length
    · rw [List.getElem?_append_left (by rw [List.length_map]; exact hj), List.getElem?_map, List.getElem?_eq_getElem hj] at h
      have h : some (Sl.d ds[j]) = some s := h
      cases h
      obtain ⟨v, q1, q2⟩ := p.get (List.getElem?_eq_getElem hj)
      refine ⟨v, ?_, q2.less fun a z => z.elim id (fun q => nomatch q)⟩
      unfold L2.start
      rw [List.getElem?_append_left (by rw [List.length_map, ← hl]; exact hj), List.getElem?_map, q1]
      rfl
    · rw [List.getElem?_append_right (by rw [List.length_map]; omega)] at h
      have h2 := List.eq_of_mem_replicate (List.mem_of_getElem? h)
      subst h2
      trivial
  · unfold startR at h
    by_cases hj : j < ds.length
    · rw [List.getElem?_append_left (by rw [List.length_map]; exact hj), List.getElem?_map, List.getElem?_eq_getElem hj] at h
      cases h
    · rw [List.getElem?_append_right (by rw [List.length_map]; omega)] at h
      have h2 := List.eq_of_mem_replicate (List.mem_of_getElem? h)
      cases h2
section
variable {P : Program} {w : World} {K : PySem.W.Frag} {mg : Str → Option Value} {base : Heap}
/-- a def by its body, over data -/
theorem fn_dw {x qual : Str} {st : Stmt} {f : Addr} {fd : FuncData} {N ps : List Str} {k : Nat} {S : Sg} {pre : S.G → List D → Prop} {post : S.G → List D → D → Prop} (F : Fun K x qual st f fd) (T : FnScope N ps (defScope st))
    (len : ∀ g ds, pre g ds → ds.length = ps.length)
    (body : ∀ (cdv : Value) (A : Around) (outer : List Env) (s : Shared) (H : Hp) (E : XK) (g : S.G) (ds : List D) (F1 : No) (f0 : ∀ a, S.F0 g a → F1 a) (tr : ∀ a, F1 a → H a ≠ none), Room k (A.deeper (envOfC qual (defScope st) s.heap.objs.size f cdv)) → pre g ds →
      ∃ t, PSs (cxOf CX0 P w K mg base N qual (defScope st) f cdv A outer s H E).nox (defBody st) t ∧ DS (mdOf K S g H F1 f0 tr) t [] (startR N.length ds) { nx := fun _ _ => post g ds .non, rt := post g ds }) : FnOk P w K mg base CX0 (k + 1) f fd ps (SpD K S pre post) := by
  refine F.ok T (fun vs H Q E h => ?_) (fun cdv A outer s H vs Q E hr h => ?_)
  · obtain ⟨g, ds, F1, p, _, _, _, q, _⟩ := h
    rw [← p.length, len g ds q]
  · obtain ⟨g, ds, F1, p, f0, tr, i, q, z⟩ := h
    obtain ⟨t, ht, hd⟩ := body cdv A outer s H E g ds F1 f0 tr hr q
    refine ⟨t, ht, hd _ H _ (start_rp (M := mdOf K S g H F1 f0 tr) p i) ⟨fun O r σ H1 R a q => z .non H1 .non R.sm R.inv rfl q, fun v H1 d s1 i1 p1 q => z v H1 d s1 i1 p1 q, fun _ _ _ _ _ _ q => q.elim, fun _ _ _ _ _ _ q => q.elim⟩⟩
end
section
variable {M : Md} {O : List Addr} {r : List Sl} {k : D → Prop} {tl : TA} {Ex : XK}
/-- a call -/
theorem de_call {S : Sg} {pre : S.G → List D → Prop} {post : S.G → List D → D → Prop} (g : S.G) (h0 : M.F0 = S.F0 g) (hI : M.I = S.I g)
    (h : DA M tl O r fun ds => pre g ds ∧ ∀ d, post g ds d → k d) : De M (tCall (SpD M.K S pre post) [] Ex tl) O r k := fun σ H Q R z => by
  refine h σ H _ R fun vs H1 ds R1 e1 p1 q => ?_
  rw [List.append_nil]
  refine ⟨g, ds, nf M O, p1, fun a x => .inl (M.f0 a (by rw [h0]; exact x)), nf_tr R1, by rw [← hI]; exact R1.inv, q.1, fun v H2 d s i p po => ?_⟩
  have s' : Sm M.F0 H1 H2 := by rw [h0]; exact s
  exact z v H2 d (R1.step s' (by rw [hI]; exact i)) (e1.trans s') p (q.2 d po)
theorem de_callP {pre : List D → Prop} {post : List D → D → Prop} (h : DA M tl O r fun ds => pre ds ∧ ∀ d, post ds d → k d) : De M (tCall (SpP M.K pre post) [] Ex tl) O r k := fun σ H Q R z => by
  refine h σ H _ R fun vs H1 ds R1 e1 p1 q => ?_
  rw [List.append_nil]
  exact ⟨(), ds, nf M O, p1, fun a x => x.elim, nf_tr R1, trivial, q.1, fun v H2 d s i p po => z v H2 d (R1.grow s) (e1.trans (sm_0 s)) p (q.2 d po)⟩
end

/-! ### what is walked -/
structure Wk (K : PySem.W.Frag) (J : It) (xs : List D) where
  G : No → Hp → Prop
  mono : ∀ N H H', Sm N H H' → G N H → G N H'
  gen : ∀ N N' H, (∀ a, N' a → N a ∨ H a = none) → G N H → G N' H
  go : ∀ N H i, G N H → i < xs.length → J.go i H
  yld : ∀ N H i x H' d, (∀ a, N a → H a ≠ none) → G N H → J.yld i H x H' → xs[i]? = some d → Sm (fun _ => False) H H' ∧ Rep K N H' d x
  stop : ∀ N H i, G N H → xs.length ≤ i → J.stop i H
def DI (M : Md) (wi : TI) (O : List Addr) (r : List Sl) (k : List D → Prop) : Prop :=
  ∀ σ H (Q : It → Hp → Prop), Rp M O r σ H → (∀ J H' xs (W : Wk M.K J xs), Rp M O r σ H' → Sm M.F0 H H' → W.G (nf M O) H' → k xs → Q J H') → wi σ H Q
section
variable {M : Md} {O : List Addr} {r : List Sl} {k : List D → Prop} {te : TE} {ta : TA}
def wk_list (K : PySem.W.Frag) (a : Addr) (xs : List D) : Wk K (Itl K a) xs where
  G := fun N H => ∃ vs, LAt K N H a vs ∧ RepL K N H xs vs
  mono := fun N H H' e ⟨vs, h1, h2⟩ => ⟨vs, h1.mono e, h2.mono e⟩
  gen := fun N N' H e ⟨vs, h1, h2⟩ => ⟨vs, h1.gen e, h2.gen e⟩
  go := fun N H i ⟨vs, h1, h2⟩ hi => ⟨vs, vs[i]'(by rw [← h2.length]; exact hi), h1.sq, List.getElem?_eq_getElem _⟩
  yld := fun N H i x H' d _ ⟨vs, h1, h2⟩ y hd => by
    obtain ⟨rfl, y⟩ := y
    obtain ⟨v, q1, q2⟩ := h2.get hd
    have := y vs h1.sq
    rw [q1] at this
    cases this
    exact ⟨.refl, q2⟩
  stop := fun N H i ⟨vs, h1, h2⟩ hi => ⟨vs, h1.sq, by rw [← h2.length]; exact hi⟩
def wk_tup (K : PySem.W.Frag) (a : Addr) (xs : List D) : Wk K (Itt K a) xs where
  G := fun N H => ∃ vs, TAt K N H a vs ∧ RepL K N H xs vs
  mono := fun N H H' e ⟨vs, h1, h2⟩ => ⟨vs, h1.mono e, h2.mono e⟩
  gen := fun N N' H e ⟨vs, h1, h2⟩ => ⟨vs, h1.gen e, h2.gen e⟩
  go := fun N H i ⟨vs, h1, h2⟩ hi => ⟨vs, vs[i]'(by rw [← h2.length]; exact hi), h1.sq, List.getElem?_eq_getElem _⟩
  yld := fun N H i x H' d _ ⟨vs, h1, h2⟩ y hd => by
    obtain ⟨rfl, y⟩ := y
    obtain ⟨v, q1, q2⟩ := h2.get hd
    have := y vs h1.sq
    rw [q1] at this
    cases this
    exact ⟨.refl, q2⟩
  stop := fun N H i ⟨vs, h1, h2⟩ hi => ⟨vs, h1.sq, by rw [← h2.length]; exact hi⟩
/-- lo, lo + 1, .. -/
def rangeD (lo : Int) (n : Nat) : List D := (List.range n).map fun (i : Nat) => D.int (lo + (i : Int))
theorem rangeD_len (lo : Int) (n : Nat) : (rangeD lo n).length = n := by
  unfold rangeD
  rw [List.length_map, List.length_range]
theorem rangeD_get {lo : Int} {n i : Nat} {d : D} (h : (rangeD lo n)[i]? = some d) : i < n ∧ d = .int (lo + (i : Int)) := by
  have hi : i < n := by
    have := (List.getElem?_eq_some_iff.mp h).1
    rw [rangeD_len] at this
    exact this
  refine ⟨hi, ?_⟩
  unfold rangeD at h
  rw [List.getElem?_map, List.getElem?_range hi] at h
  exact (Option.some.inj h).symm
def wk_range (K : PySem.W.Frag) (lo : Int) (n : Nat) : Wk K (Itr lo n) (rangeD lo n) where
  G := fun _ _ => True
  mono := fun _ _ _ _ _ => trivial
  gen := fun _ _ _ _ _ => trivial
  go := fun N H i _ hi => by
    rw [rangeD_len] at hi
    exact hi
  yld := fun N H i x H' d _ _ y hd => by
    obtain ⟨rfl, rfl⟩ := y
    obtain ⟨_, rfl⟩ := rangeD_get hd
    exact ⟨.refl, rfl⟩
  stop := fun N H i _ hi => by
    rw [rangeD_len] at hi
    exact hi
theorem di_list (h : De M te O r fun x => ∃ xs, x = .lst xs ∧ k xs) : DI M (iList M.K te) O r k := fun σ H Q R z => h σ H _ R fun v H1 x R1 e1 p1 q => by
  obtain ⟨xs, rfl, q⟩ := q
  obtain ⟨a, vs, rfl, h1, h2⟩ := p1
  exact ⟨a, rfl, ⟨vs, h1.sq⟩, z _ H1 xs (wk_list M.K a xs) R1 e1 ⟨vs, h1, h2⟩ q⟩
theorem di_tup (h : De M te O r fun x => ∃ xs, x = .tup xs ∧ k xs) : DI M (iTup M.K te) O r k := fun σ H Q R z => h σ H _ R fun v H1 x R1 e1 p1 q => by
  obtain ⟨xs, rfl, q⟩ := q
  obtain ⟨a, vs, rfl, h1, h2⟩ := p1
  exact ⟨a, rfl, ⟨vs, h1.sq⟩, z _ H1 xs (wk_tup M.K a xs) R1 e1 ⟨vs, h1, h2⟩ q⟩
theorem di_range1 (h : DA M ta O r fun ds => ∃ n : Int, ds = [.int n] ∧ (-(2 ^ 62) ≤ n ∧ n < 2 ^ 62) ∧ k (rangeD 0 n.toNat)) : DI M (iRng1 ta) O r k := fun σ H Q R z => h σ H _ R fun vs H1 ds R1 e1 p1 q => by
  obtain ⟨n, rfl, ⟨b1, b2⟩, q⟩ := q
  have e : vs = [.int n] := repL_ints (ns := [n]) p1
  exact ⟨n, e, b1, b2, z _ H1 _ (wk_range M.K 0 n.toNat) R1 e1 trivial q⟩
theorem di_range2 (h : DA M ta O r fun ds => ∃ m n : Int, ds = [.int m, .int n] ∧ (-(2 ^ 62) ≤ m ∧ m < 2 ^ 62 ∧ -(2 ^ 62) ≤ n ∧ n < 2 ^ 62) ∧ k (rangeD m (n - m).toNat)) : DI M (iRng2 ta) O r k := fun σ H Q R z => h σ H _ R fun vs H1 ds R1 e1 p1 q => by
  obtain ⟨m, n, rfl, b, q⟩ := q
  have e : vs = [.int m, .int n] := repL_ints (ns := [m, n]) p1
  exact ⟨m, n, e, b, z _ H1 _ (wk_range M.K m (n - m).toNat) R1 e1 trivial q⟩
end

/-! ### targets -/
def DG (M : Md) (g : TG) (js : List Nat) (O : List Addr) (r : List Sl) (d : D) (k : List Sl → Prop) : Prop :=
  ∀ v σ H (Q : L2.St → Hp → Prop), Rp M O r σ H → Rep M.K (nf M O) H d v → (∀ σ' r', Rp M O r' σ' H → (∀ vs : List Nat, (∀ j ∈ js, j ∈ vs) → wipe σ' vs = wipe σ vs) → k r' → Q σ' H) → g v σ H Q
def DGs (M : Md) (g : TGs) (js : List Nat) (O : List Addr) (r : List Sl) (ds : List D) (k : List Sl → Prop) : Prop :=
  ∀ vs σ H (Q : L2.St → Hp → Prop), Rp M O r σ H → RepL M.K (nf M O) H ds vs → (∀ σ' r', Rp M O r' σ' H → (∀ ws : List Nat, (∀ j ∈ js, j ∈ ws) → wipe σ' ws = wipe σ ws) → k r' → Q σ' H) → g vs σ H Q
theorem wipe_set_out {σ : L2.St} {i : Nat} {x : Option V} : ∀ {vs : List Nat}, i ∉ vs → wipe (σ.set i x) vs = (wipe σ vs).set i x
  | [], _ => rfl
  | j :: r, h => by
    show (wipe (σ.set i x) r).set j none = ((wipe σ r).set j none).set i x
    rw [wipe_set_out fun z => h (List.mem_cons_of_mem _ z), List.set_comm _ _ fun z => h (by rw [z]; simp)]
theorem wipe_set {σ : L2.St} {i : Nat} {x : Option V} : ∀ {vs : List Nat}, i ∈ vs → wipe (σ.set i x) vs = wipe σ vs
  | [], h => nomatch h
  | j :: r, h => by
    show (wipe (σ.set i x) r).set j none = (wipe σ r).set j none
    by_cases hr : i ∈ r
    · rw [wipe_set hr]
    · have e : i = j := (List.mem_cons.mp h).resolve_right hr
      subst e
      rw [wipe_set_out hr, List.set_set]
section
variable {M : Md} {O : List Addr} {r : List Sl} {k : List Sl → Prop}
theorem dg_name {j : Nat} {d : D} (h : k (r.set j (.d d))) : DG M (gName j) [j] O r d k := fun v σ H Q R p z =>
  z _ _ (R.set (s := .d d) ⟨v, rfl, p⟩ (fun p xs e => nomatch e)) (fun vs hv => wipe_set (hv j (by simp))) h
theorem dgs_nil (h : k r) : DGs M gNil [] O r [] k := fun vs σ H Q R p z => ⟨p, z _ _ R (fun _ _ => rfl) h⟩
theorem dgs_cons {g : TG} {gs : TGs} {js ls : List Nat} {d : D} {ds : List D} (h : DG M g js O r d fun r1 => DGs M gs ls O r1 ds k) : DGs M (gCons g gs) (js ++ ls) O r (d :: ds) k := fun vs σ H Q R p z => by
  obtain ⟨v, ws, rfl, p1, p2⟩ := p
  refine ⟨v, ws, rfl, h v σ H _ R p1 fun σ1 r1 R1 w1 q1 => q1 ws σ1 H Q R1 p2 fun σ2 r2 R2 w2 q2 => z _ _ R2 (fun us hu => ?_) q2⟩
  rw [w2 us fun j hj => hu j (List.mem_append_right _ hj), w1 us fun j hj => hu j (List.mem_append_left _ hj)]
theorem dg_tup {gs : TGs} {js : List Nat} {n : Nat} {ds : List D} (hn : ds.length = n) (h : DGs M gs js O r ds k) : DG M (gTup M.K n gs) js O r (.tup ds) k := fun v σ H Q R p z => by
  obtain ⟨a, vs, rfl, h1, h2⟩ := p
  exact ⟨a, vs, rfl, h1.sq, by rw [← h2.length, hn], h vs σ H Q R h2 z⟩
end

/-! ### comprehensions -/
def wipeR (r : List Sl) : List Nat → List Sl
  | [] => r
  | j :: js => (wipeR r js).set j .un
def muOk (r : List Sl) (vs : List Nat) : Bool := vs.all fun j => match r[j]? with
  | some (.mu _ _) => false
  | _ => true
section
variable {M : Md} {O : List Addr} {r : List Sl} {σ : L2.St} {H H' : Hp}
theorem Rp.unset {i : Nat} (R : Rp M O r σ H) : Rp M O (r.set i .un) (σ.set i none) H := by
  refine ⟨R.sm, R.inv, R.own, R.nod, by rw [List.length_set, List.length_set]; exact R.len, fun j t ht => ?_, fun j l p xs ys h1 h2 => ?_⟩
  · by_cases e : i = j
    · subst e
      by_cases hi : i < r.length
      · rw [List.getElem?_set_self hi] at ht
        cases ht
        trivial
      · rw [List.getElem?_eq_none (by rw [List.length_set]; omega)] at ht
        cases ht
    · rw [List.getElem?_set_ne e] at ht
      rw [List.getElem?_set_ne e]
      exact R.slot j t ht
  · have a : ∀ {m : Nat} {zs : List D}, (r.set i .un)[m]? = some (.mu p zs) → r[m]? = some (.mu p zs) := fun {m zs} h => by
      by_cases e : i = m
      · subst e
        by_cases hi : i < r.length
        · rw [List.getElem?_set_self hi] at h
          cases h
        · rw [List.getElem?_eq_none (by rw [List.length_set]; omega)] at h
          cases h
      · rw [List.getElem?_set_ne e] at h
        exact h
    exact R.one j l p xs ys (a h1) (a h2)
theorem Rp.wipe (R : Rp M O r σ H) : ∀ vs : List Nat, Rp M O (wipeR r vs) (wipe σ vs) H
  | [] => R
  | j :: vs => (Rp.wipe R vs).unset (i := j)
/-- back from a block: the slots as they were ahead of it -/
theorem Rp.back {O' : List Addr} {r' : List Sl} {σ' : L2.St} (R : Rp M O r σ H) (R' : Rp M O' r' σ' H') (e : Sm M.F0 H H') : Rp M O r σ H' := R.step e R'.inv
theorem wipeR_get {vs : List Nat} : ∀ {r : List Sl} {i : Nat}, i ∉ vs → (wipeR r vs)[i]? = r[i]? := by
  induction vs with
  | nil => intro r i _; rfl
  | cons j js ih =>
    intro r i h
    show ((wipeR r js).set j .un)[i]? = _
    rw [List.getElem?_set_ne fun z => h (by rw [z]; simp), ih fun z => h (List.mem_cons_of_mem _ z)]
theorem muOk_not {vs : List Nat} {p : Addr} {xs : List D} {i : Nat} (h : muOk r vs = true) (e : r[i]? = some (.mu p xs)) : i ∉ vs := fun hi => by
  have := List.all_eq_true.mp h i hi
  rw [e] at this
  exact nomatch this
end
end Dw

namespace Dw
open PySem PySem.Spec PyProof.Rows L2
theorem wipe_wipe {σ : L2.St} {vs : List Nat} : ∀ {us : List Nat}, (∀ j ∈ us, j ∈ vs) → wipe (wipe σ us) vs = wipe σ vs
  | [], _ => rfl
  | j :: us, h => by
    show wipe ((wipe σ us).set j none) vs = _
    rw [wipe_set (h j (by simp)), wipe_wipe fun l hl => h l (List.mem_cons_of_mem _ hl)]
section
variable {M : Md} {O : List Addr} {r : List Sl} {wi : TI} {g : TG} {tt : TT} {te : TE} {vs js : List Nat} {k : D → Prop}
/-- [te for g in wi if tt]: R tells the items made in the first i turns -/
theorem de_lc (hjs : ∀ j ∈ js, j ∈ vs) (h : DI M wi O r fun xs => xs.length < sizeLine ∧ ∃ R : Nat → List D → Prop, R 0 [] ∧
    (∀ (O' : List Addr) (i : Nat) (x : D) (ys : List D), xs[i]? = some x → R i ys → DG M g js O' (wipeR r vs) x fun r2 => DT M tt O' r2 fun b => if b = true then De M te O' r2 fun y => R (i + 1) (ys ++ [y]) else R (i + 1) ys) ∧
    ∀ ys, R xs.length ys → k (.lst ys)) : De M (tLc wi g tt te vs) O r k := fun σ H Q R0 z => by
  refine h σ H _ R0 fun J H1 xs W R1 e1 g1 q => ?_
  intro Dl hD
  obtain ⟨hz, R, r0, turn, fin⟩ := q
  have GD : W.G (nf M (Dl :: O)) (upd H1 Dl (.lst [])) := W.mono _ _ _ (sm_0 (sm_new hD)) (W.gen _ _ _ (fun a ha => (plus_of a ha).imp id fun z => by rw [z]; exact hD) g1)
  refine ⟨fun i m H2 => m = xs.length - i ∧ i ≤ xs.length ∧ ∃ ys acc, R i ys ∧ ys.length ≤ i ∧ H2 Dl = some (.lst acc) ∧ RepL M.K (nf M (Dl :: O)) H2 ys acc ∧ Rp M (Dl :: O) r σ H2 ∧ Sm M.F0 H1 H2 ∧ W.G (nf M (Dl :: O)) H2,
    ⟨xs.length, by simp, Nat.zero_le _, [], [], r0, Nat.le_refl _, upd_same, .nil, R1.own1 hD, sm_0 (sm_new hD), GD⟩, ?_⟩
  rintro i m H2 ⟨rfl, hi, ys, acc, hR, hy, hd, pa, R2, e2, g2⟩
  by_cases hlt : i < xs.length
  · refine .inr ⟨W.go _ _ i g2 hlt, _, fun H' p => ⟨xs.length - (i + 1), by omega, rfl, hlt, p⟩, fun x H3 y => ?_⟩
    obtain ⟨s3, p3⟩ := W.yld _ _ i x H3 _ (nf_tr R2) g2 y (List.getElem?_eq_getElem hlt)
    have R3 := R2.grow s3
    refine turn (Dl :: O) i _ ys (List.getElem?_eq_getElem hlt) hR x _ H3 _ (R3.wipe vs) p3 fun σ4 r4 R4 w4 q4 => ⟨?_, ?_⟩
    · rw [w4 vs hjs, wipe_wipe fun _ h => h]
    · refine q4 σ4 H3 _ R4 fun b H5 R5 e5 q5 => ?_
      have e35 : Sm M.F0 H2 H5 := (sm_0 s3).trans e5
      cases b with
      | false =>
        rw [if_neg Bool.false_ne_true] at q5 ⊢
        have R5' := R2.step e35 R5.inv
        have nD : ¬ M.F0 Dl := fun z => M.tr Dl (M.f0 Dl z) (R2.own Dl (by simp)).1
        exact ⟨ys, acc, q5, by omega, e35 Dl _ nD hd, pa.step e35, R5', e2.trans e35, W.mono _ _ _ (e35.wide nf0) g2⟩
      | true =>
        rw [if_pos rfl] at q5 ⊢
        refine q5 σ4 H5 _ R5 fun v H6 d R6 e6 p6 q6 => ?_
        have e26 : Sm M.F0 H2 H6 := e35.trans e6
        have nD : ¬ M.F0 Dl := fun z => M.tr Dl (M.f0 Dl z) (R2.own Dl (by simp)).1
        have hd6 := e26 Dl _ nD hd
        have pa6 := pa.step e26
        refine ⟨acc, hd6, by rw [← pa.length]; omega, ys ++ [d], acc ++ [v], q6, by simp; omega, upd_same, ?_, ?_, ?_, ?_⟩
        · have e : Sm (nf M (Dl :: O)) H6 (upd H6 Dl (.lst (acc ++ [v]))) := fun a o n e => by
            rw [upd_ne fun z => n (.inr (by rw [z]; simp))]
            exact e
          exact (pa6.append (.one p6)).mono e
        · -- the own list is in no slot
          have R6' := R2.step e26 R6.inv
          have fp : M.H0 Dl = none := (R2.own Dl (by simp)).1
          have nin : ∀ (j : Nat) (zs : List D), r[j]? ≠ some (.mu Dl zs) := fun j zs e => (R1.own Dl (R1.slot j _ e).2.1).2 hD
          have e : Sm (nf M (Dl :: O)) H6 (upd H6 Dl (.lst (acc ++ [v]))) := fun a o n e => by
            rw [upd_ne fun z => n (.inr (by rw [z]; simp))]
            exact e
          refine ⟨fun a o n e => ?_, M.st H6 _ R6'.inv fun a o f e => ?_, fun a ha => ⟨(R6'.own a ha).1, ?_⟩, R6'.nod, R6'.len, fun j t ht => ?_, R6'.one⟩
          · rw [upd_ne (ne_of_none e fp)]
            exact R6'.sm a o n e
          · rw [upd_ne fun z => M.tr a (M.f0 a f) (by rw [z]; exact fp)]
            exact e
          · by_cases q : a = Dl
            · rw [q, upd_same]
              exact fun z => nomatch z
            · rw [upd_ne q]
              exact (R6'.own a ha).2
          · have h1 := R6'.slot j t ht
            cases t with
            | un => trivial
            | d x =>
              obtain ⟨u, e2, h2⟩ := h1
              exact ⟨u, e2, h2.mono e⟩
            | mu l zs =>
              obtain ⟨e2, hl, us, h2, h3⟩ := h1
              refine ⟨e2, hl, us, ?_, h3.mono e⟩
              rw [upd_ne fun z => nin j zs (by rw [← z]; exact ht)]
              exact h2
        · exact fun a o n e => by
            have ea := e2.trans e26 a o n e
            rw [upd_ne (ne_of_none e hD)]
            exact ea
        · exact W.mono _ _ _ (fun a o n e => by
            rw [upd_ne fun z => n (.inr (by rw [z]; simp))]
            exact e26 a o (fun z => n (nf0 a z)) e) g2
  · have e : i = xs.length := by omega
    subst e
    refine .inl ⟨W.stop _ _ _ g2 (Nat.le_refl _), ?_⟩
    have w : ∀ a, nf M O a → nf M (Dl :: O) a := fun a ha => ha.imp id (List.mem_cons_of_mem _)
    refine z (.ref Dl) H2 (.lst ys) (R1.step e2 R2.inv) (e1.trans e2) ⟨Dl, acc, rfl, .inl ⟨new_no R1 hD, .inl hd⟩, pa.less w⟩ (fin ys hR)
/-- .. where the test and the item are functions of what is walked -/
theorem de_lcF (p : D → Bool) (f : D → D) (hjs : ∀ j ∈ js, j ∈ vs) (h : DI M wi O r fun xs => xs.length < sizeLine ∧
    (∀ (O' : List Addr) (i : Nat) (x : D), xs[i]? = some x → DG M g js O' (wipeR r vs) x fun r2 => DT M tt O' r2 fun b => b = p x ∧ (p x = true → De M te O' r2 fun y => y = f x)) ∧
    k (.lst ((xs.filter p).map f))) : De M (tLc wi g tt te vs) O r k :=
  de_lc hjs fun σ H Q R z => h σ H Q R fun J H1 xs W R1 e1 g1 ⟨hz, turn, fin⟩ => z J H1 xs W R1 e1 g1 ⟨hz, fun i ys => ys = ((xs.take i).filter p).map f, by simp, fun O' i x ys hx hy => by
    have ht : xs.take (i + 1) = xs.take i ++ [x] := by rw [List.take_add_one, hx]; rfl
    refine fun v σ H Q R pv z => turn O' i x hx v σ H Q R pv fun σ' r' R' w' q => z σ' r' R' w' (q.imp fun b ⟨hb, hq⟩ => ?_)
    subst hb
    cases e : p x with
    | true =>
      rw [if_pos rfl]
      refine (hq e).imp fun y hy2 => ?_
      show ys ++ [y] = ((xs.take (i + 1)).filter p).map f
      rw [ht, List.filter_append, List.map_append, hy, hy2, List.filter_cons_of_pos e]
      rfl
    | false =>
      rw [if_neg Bool.false_ne_true]
      show ys = ((xs.take (i + 1)).filter p).map f
      rw [ht, List.filter_append, List.map_append, hy, List.filter_cons_of_neg (by rw [e]; decide)]
      simp, fun ys hy => by
    rw [hy, List.take_length]
    exact fin⟩
/-- .. one item a turn, each of a kind -/
theorem de_lcP (C : Nat → D → D → Prop) (hjs : ∀ j ∈ js, j ∈ vs) (h : DI M wi O r fun xs => xs.length < sizeLine ∧
    (∀ (O' : List Addr) (i : Nat) (x : D), xs[i]? = some x → DG M g js O' (wipeR r vs) x fun r2 => De M te O' r2 (C i x)) ∧
    ∀ ys, ys.length = xs.length → (∀ (i : Nat) x y, xs[i]? = some x → ys[i]? = some y → C i x y) → k (.lst ys)) : De M (tLc wi g tYes te vs) O r k :=
  de_lc hjs fun σ H Q R z => h σ H Q R fun J H1 xs W R1 e1 g1 ⟨hz, turn, fin⟩ => z J H1 xs W R1 e1 g1 ⟨hz, fun i ys => ys.length = i ∧ ∀ (j : Nat) x y, xs[j]? = some x → ys[j]? = some y → C j x y, ⟨rfl, fun j x y _ e => by simp at e⟩, fun O' i x ys hx ⟨hl, hy⟩ => by
    refine fun v σ H Q R pv z => turn O' i x hx v σ H Q R pv fun σ' r' R' w' q => z σ' r' R' w' fun σ H Q R z => z true H R .refl (iteT ?_)
    refine q.imp fun y cy => ⟨by simp [hl], fun j a b ha hb => ?_⟩
    by_cases hj : j < ys.length
    · rw [List.getElem?_append_left hj] at hb
      exact hy j a b ha hb
    · rw [List.getElem?_append_right (by omega)] at hb
      have hj2 : j - ys.length = 0 := by
        refine Nat.eq_zero_of_not_pos fun q => ?_
        rw [List.getElem?_eq_none (by simp; omega)] at hb
        cases hb
      rw [hj2] at hb
      have ej : j = i := by omega
      subst ej
      rw [hx] at ha
      cases ha
      cases hb
      exact cy, fun ys ⟨hl, hy⟩ => fin ys hl hy⟩
end
/-! ### for -/
section
variable {M : Md} {O : List Addr} {r : List Sl} {wi : TI} {g : TG} {tb : TS} {js : List Nat} {E : Kn}
theorem ds_for (h : DI M wi O r fun xs => ∃ V : Nat → List Addr → List Sl → Prop, V 0 O r ∧
    (∀ (i : Nat) (x : D) (O' : List Addr) (r' : List Sl), xs[i]? = some x → V i O' r' → DG M g js O' r' x fun r2 => DS M tb O' r2 { E with nx := V (i + 1), ct := V (i + 1), bk := E.nx }) ∧
    ∀ (O' : List Addr) (r' : List Sl), V xs.length O' r' → E.nx O' r') : DS M (tFor wi g tb) O r E := fun σ H Z R0 z => by
  refine h σ H _ R0 fun J H1 xs W R1 e1 g1 ⟨V, v0, turn, fin⟩ => ?_
  have gI : W.G (fun a => nf M O a ∨ H1 a = none) H1 := W.gen _ _ _ (fun a ha => ha) g1
  refine ⟨fun i m σ2 H2 => m = xs.length - i ∧ i ≤ xs.length ∧ ∃ O2 r2, V i O2 r2 ∧ Rp M O2 r2 σ2 H2 ∧ Stp M O H1 O2 H2, ⟨xs.length, by simp, Nat.zero_le _, O, r, v0, R1, .refl⟩, ?_⟩
  rintro i m σ2 H2 ⟨rfl, hi, O2, r2, hv, R2, s2⟩
  have s02 : Stp M O H O2 H2 := Stp.trans R1.inv (R1.stp e1) s2
  have g2 : W.G (fun a => nf M O a ∨ H1 a = none) H2 := W.mono _ _ _ (s2.1.wide fun a ha => .inl (ha.imp (M.f0 a) id)) gI
  by_cases hlt : i < xs.length
  · refine .inr ⟨W.go _ _ i g2 hlt, fun σ3 H3 => ∃ O3 r3, V (i + 1) O3 r3 ∧ Rp M O3 r3 σ3 H3 ∧ Stp M O H1 O3 H3, fun σ' H' p => ⟨xs.length - (i + 1), by omega, rfl, hlt, p⟩, fun x H3 y => ?_⟩
    have g2' : W.G (nf M O2) H2 := W.gen _ _ _ (fun a ha => .inl (by
      rcases ha with ha | ha
      · exact .inl (.inl ha)
      · exact (s2.2.1 a ha).imp .inr id)) g2
    obtain ⟨s3, p3⟩ := W.yld _ _ i x H3 _ (nf_tr R2) g2' y (List.getElem?_eq_getElem hlt)
    have R3 := R2.grow s3
    have s13 : Stp M O H1 O2 H3 := Stp.trans R2.inv s2 (R3.stp (sm_0 s3))
    refine turn i _ O2 r2 (List.getElem?_eq_getElem hlt) hv x _ H3 _ R3 p3 fun σ4 r4 R4 w4 q4 => ?_
    have back : ∀ {O5 : List Addr} {H5 : Hp}, Stp M O2 H3 O5 H5 → Stp M O H1 O5 H5 := fun s => Stp.trans R3.inv s13 s
    refine q4 σ4 H3 _ R4 ⟨fun O5 r5 σ5 H5 R5 s5 q5 => ⟨O5, r5, q5, R5, back s5⟩, fun v H5 d s1 i1 p1 q5 => z.rt v H5 d s1 i1 p1 q5, fun O5 r5 σ5 H5 R5 s5 q5 => ?_, fun O5 r5 σ5 H5 R5 s5 q5 => ⟨O5, r5, q5, R5, back s5⟩⟩
    exact z.nx O5 r5 σ5 H5 R5 (Stp.trans R1.inv (R1.stp e1) (back s5)) q5
  · have e : i = xs.length := by omega
    subst e
    exact .inl ⟨W.stop _ _ _ g2 (Nat.le_refl _), z.nx O2 r2 σ2 H2 R2 s02 (fin O2 r2 hv)⟩
/-- while, by a word over the slots and a measure -/
theorem ds_while {tc : TT} (V : List Addr → List Sl → Prop) (m : List Sl → Nat) (v0 : V O r) (turn : ∀ (O' : List Addr) (r' : List Sl), V O' r' → DT M tc O' r' fun b => if b = true then DS M tb O' r' { E with nx := fun O2 r2 => V O2 r2 ∧ m r2 < m r', ct := fun O2 r2 => V O2 r2 ∧ m r2 < m r', bk := E.nx } else E.nx O' r') : DS M (tWhile tc tb) O r E := fun σ H Z R0 z => by
  refine ⟨fun n σ2 H2 => ∃ O2 r2, n = m r2 ∧ V O2 r2 ∧ Rp M O2 r2 σ2 H2 ∧ Stp M O H O2 H2, ⟨m r, O, r, rfl, v0, R0, .refl⟩, ?_⟩
  rintro n σ2 H2 ⟨O2, r2, rfl, hv, R2, s2⟩
  refine turn O2 r2 hv σ2 H2 _ R2 fun b H3 R3 e3 q3 => ?_
  have s3 : Stp M O H O2 H3 := Stp.trans R2.inv s2 (R3.stp e3)
  cases b with
  | false =>
    rw [if_neg Bool.false_ne_true] at q3 ⊢
    exact z.nx O2 r2 σ2 H3 R3 s3 q3
  | true =>
    rw [if_pos rfl] at q3 ⊢
    refine ⟨fun σ5 H5 => ∃ O5 r5, (V O5 r5 ∧ m r5 < m r2) ∧ Rp M O5 r5 σ5 H5 ∧ Stp M O H O5 H5, fun σ5 H5 ⟨O5, r5, ⟨a, b⟩, c, d⟩ => ⟨m r5, b, O5, r5, rfl, a, c, d⟩, ?_⟩
    have back : ∀ {O5 : List Addr} {H5 : Hp}, Stp M O2 H3 O5 H5 → Stp M O H O5 H5 := fun s => Stp.trans R3.inv s3 s
    exact q3 σ2 H3 _ R3 ⟨fun O5 r5 σ5 H5 R5 s5 q5 => ⟨O5, r5, q5, R5, back s5⟩, fun v H5 d s1 i1 p1 q5 => z.rt v H5 d s1 i1 p1 q5, fun O5 r5 σ5 H5 R5 s5 q5 => z.nx O5 r5 σ5 H5 R5 (back s5) q5, fun O5 r5 σ5 H5 R5 s5 q5 => ⟨O5, r5, q5, R5, back s5⟩⟩
end
end Dw

/-! list(reversed(a list)): a rule over the library's walks. -/
namespace Dw
open PySem PySem.Spec PyProof.Rows L2
theorem lri_no_len : typeLookup (.type "list_reverseiterator") "__len__" = pure none := by rw [typeLookup_type, builtinLookup_eq_fast]; kernel_rfl
theorem lri_hint : typeLookup (.type "list_reverseiterator") "__length_hint__" = pure (some (.builtin "list_reverseiterator.__length_hint__")) := by rw [typeLookup_type, builtinLookup_eq_fast]; kernel_rfl
theorem lri_sub : isSubtype (.type "list_reverseiterator") (.type "list_reverseiterator") = pure true := by rw [isSubtype_type]; kernel_rfl
section
variable {prog : Program} {w : World} {A : Around} {s : Shared} {E : Value → Shared → Prop}
theorem hint_rev {I : Addr} {Q : Bool → Shared → Prop} (kindR : s.TypeIs (.ref I) "list_reverseiterator") (h : Q false s) : wpAny (model prog w) A (Builtin.List.listLengthHint (.ref I)) Q E s := by
  unfold Builtin.List.listLengthHint
  refine wpAny_bind (wpAny_specialOf kindR lri_no_len ?_)
  show wpAny _ A (specialOf (Value.ref I) (Str.ofString "__length_hint__") >>= _) _ _ _
  refine wpAny_bind (wpAny_specialOf kindR lri_hint ?_)
  generalize nm : ("list_reverseiterator.__length_hint__" : String) = nm0
  wp_delta
  rw [show splitId nm0 = some ("list_reverseiterator", "__length_hint__") from by subst nm; decide +kernel]
  subst nm
  refine wpAny_bind (wpAny_isInstance (T := "list_reverseiterator") (b := true) kindR lri_sub ?_)
  refine wpAny_ite_split (fun no => absurd no (by decide)) (fun _ => ?_)
  refine wpAny_ite_split (fun _ => ?_) (fun no => absurd (by decide +kernel) no)
  refine wpAny_ite_split (fun no => absurd no (by decide +kernel)) (fun _ => ?_)
  exact wpAny_pure h
variable {R : Result → Shared → Prop} {I : Addr} {fp wr : List Addr} {G : Array GenState → Array GenState → Prop} {n : Nat} {P : Nat → Value → Prop} {St : Nat → Shared → Prop}
theorem extend_rev (W : WalksS prog w A.in1 I fp wr G n P St) (kindR : ∀ i s, St i s → s.TypeIs (.ref I) "list_reverseiterator") (S : Addr) (res : Value) (c0 : Nat) (atS : St 0 s) (outF : S ∉ fp) (hI : I ∈ fp)
    (cell : s.heap.get? S = some { cls := .type "list", data := .seq #[] c0 })
    (hR : ∀ s' xs1 cp1, Moved (S :: wr) G s s' → s'.heap.get? S = some { cls := .type "list", dict := none, data := .seq xs1 cp1, slots := #[] } → ItemsOf P xs1 n → R (.ok (.ret res)) s') (hn : n ≤ sizeLine) :
    wpAny (model prog w) A.in1 (Builtin.List.listExtendWith (.ref S) (.ref I) res)
      (fun fin s' => match fin with | .done f => R (.ok f) s' | .again cp1 => cp1.quiet = true ∧ codeAny (model prog w) A cp1 R s') (fun e s' => R (.error e) s') s := by
  have nIn : S ≠ I := fun e => outF (e ▸ hI)
  unfold Builtin.List.listExtendWith
  refine wpAny_bind (wpAny_typeOf (kindR 0 _ atS) ?_)
  have e1q : Builtin.List.listSameRef (.ref S) (.ref I) = false := by simp [Builtin.List.listSameRef, nIn]
  have e2q : (Value.type "list_reverseiterator" == Value.type "list") = false := by decide
  have e3q : (Value.type "list_reverseiterator" == Value.type "tuple") = false := by decide
  simp only [e1q, e2q, e3q, Bool.or_false, Bool.false_eq_true, if_false]
  refine wpAny_bind (W.self 0 _ _ _ atS ?_)
  refine wpAny_bind (wpAny_holding (hint_rev (kindR 0 _ atS) ?_))
  refine wpAny_pure ⟨plainId_quiet F.plain_extend_loop _, codeAny_extend_loopS W hn S outF res n 0 s #[] c0 rfl (Nat.zero_le _) atS cell (ItemsOf.nil P) fun s' xs1 cp1 hm cell1 got => ?_⟩
  exact hR s' xs1 cp1 hm cell1 got
theorem list_init_rev (W : WalksS prog w A.in1 I fp wr G n P St) (kindR : ∀ i s, St i s → s.TypeIs (.ref I) "list_reverseiterator") (S : Addr) (atS : St 0 s) (outF : S ∉ fp) (hI : I ∈ fp)
    (cell : s.heap.get? S = some { cls := .type "list", data := .seq #[] })
    (hR : ∀ s' xs1 cp1, Moved (S :: wr) G s s' → s'.heap.get? S = some { cls := .type "list", dict := none, data := .seq xs1 cp1, slots := #[] } → ItemsOf P xs1 n → R (.ok (.ret .none)) s') (hn : n ≤ sizeLine) :
    wpAny (model prog w) A.in1 (Builtin.«list.__init__» ⟨[.ref S, .ref I], []⟩)
      (fun fin s' => match fin with | .done f => R (.ok f) s' | .again cp1 => cp1.quiet = true ∧ codeAny (model prog w) A cp1 R s') (fun e s' => R (.error e) s') s := by
  show wpAny _ A.in1 (do let old ← Builtin.List.listItems (.ref S); Builtin.List.listUpdate (.ref S) (fun _ => #[]); letGo old.toList.reverse; Builtin.List.listExtendWith (.ref S) (.ref I) .none) _ _ s
  refine wpAny_bind ?_
  unfold Builtin.List.listItems
  refine wpAny_bind (wpAny_seqItems cell rfl (wpAny_pure ?_))
  show wpAny _ A.in1 (updateSeq S (fun _ => #[]) >>= fun _ => letGo (#[] : Array Value).toList.reverse >>= fun _ => Builtin.List.listExtendWith (.ref S) (.ref I) .none) _ _ s
  refine wpAny_bind (wpAny_updateSeq cell rfl ?_)
  have cell2 := Heap.get?_update_self (Obj.mapSeq (fun _ => (#[] : Array Value))) cell rfl
  have rest : ∀ b o, b ≠ S → s.heap.get? b = some o → (s.heap.update S (Obj.mapSeq (fun _ => (#[] : Array Value)))).get? b = some o :=
    fun b o hb e => (Heap.get?_update_other _ _ (Ne.symm hb)).trans e
  refine wpAny_bind (wpAny_letGo ?_)
  refine extend_rev W kindR S .none _ (W.frame 0 s _ s.toks atS (Nat.le_refl _) fun b hb o e => rest b o (fun h => outF (h ▸ hb)) e) outF hI cell2 (fun s' xs1 cp1 hm cell1 got => ?_) hn
  exact hR s' xs1 cp1 (Moved.trans W.gtrans ((Moved.refl W.grefl).then_heap (Nat.le_refl _) fun b o hb e => rest b o (fun h => hb (h ▸ List.mem_cons_self)) e) hm) cell1 got
end
section
variable {prog : Program} {w : World} {A : Around} {s : Shared} {E : Value → Shared → Prop}
variable {I : Addr} {fp wr : List Addr} {G : Array GenState → Array GenState → Prop} {n : Nat} {P : Nat → Value → Prop} {St : Nat → Shared → Prop}
theorem call_list_revW {Q : Value → Shared → Prop} (W : WalksS prog w A.in1.in1 I fp wr G n P St) (kindR : ∀ i s, St i s → s.TypeIs (.ref I) "list_reverseiterator") (atS : St 0 s) (below : ∀ b ∈ fp, b < s.heap.objs.size) (hI : I ∈ fp)
    (hQ : ∀ s' xs1 cp1, Moved (s.heap.objs.size :: wr) G { s with heap := s.heap.push { cls := .type "list", data := .seq #[] } } s' →
      s'.heap.get? s.heap.objs.size = some { cls := .type "list", dict := none, data := .seq xs1 cp1, slots := #[] } → ItemsOf P xs1 n → Q (.ref s.heap.objs.size) s') (hn : n ≤ sizeLine) :
    wpAny (model prog w) A (call (.type "list") [.ref I]) Q E s := by
  have outF : s.heap.objs.size ∉ fp := fun hm => Nat.lt_irrefl _ (below _ hm)
  refine callType_codes (Q₁ := fun obj s1 => obj = .ref s.heap.objs.size ∧ s1 = { s with heap := s.heap.push { cls := .type "list", data := .seq #[] } }) F.called_list (F.typeCall_list_1 _) F.entry_list_init
    (code_list_new _ ⟨rfl, rfl⟩) fun obj s1 e1q => ?_
  obtain ⟨rfl, rfl⟩ := e1q
  have cell : (s.heap.push { cls := .type "list", data := .seq #[] }).get? s.heap.objs.size = some { cls := .type "list", data := .seq #[] } := Heap.get?_push_size _ rfl
  refine ⟨⟨_, cell, rfl⟩, F.args_list_init_2 _ _, list_init_rev W kindR _ (W.frame 0 s _ s.toks atS (Nat.le_refl _) fun b _ o e => Heap.get?_push_of_some _ e) outF hI cell (fun s' xs1 cp1 hm cell1 got => ?_) hn⟩
  exact ⟨rfl, hQ s' xs1 cp1 hm cell1 got⟩
/-- list of a reverse iterator over a list -/
theorem call_list_rev {it l : Addr} {items : Array Value} {Q : Value → Shared → Prop} (hh : A.handled = none) (hit : s.heap.IsRevIter it l ((items.size : Int) - 1)) (hl : s.heap.IsList l items) (hne : l ≠ it) (hn : items.size ≤ sizeLine)
    (hQ : ∀ (h' : Heap) (tk : Nat) (acc : Array Value) (c : Nat), (∀ b o, b ≠ it → s.heap.get? b = some o → h'.get? b = some o) → h'.get? s.heap.objs.size = some { cls := .type "list", dict := none, data := .seq acc c, slots := #[] } →
      ItemsOf (fun i v => items[items.size - 1 - i]? = some v) acc items.size → Q (.ref s.heap.objs.size) { s with heap := h', toks := tk }) :
    wpAny (model prog w) A (call (.type "list") [.ref it]) Q E s := by
  have W := (Walks.listRev (prog := prog) (w := w) (A := A.in1.in1) hh it l hne items).toS
  obtain ⟨o1, ho1, _⟩ := id hit
  obtain ⟨o2, ho2, _⟩ := id hl
  refine call_list_revW W (fun i s h => h.2.1.typeIs) ⟨Nat.zero_le _, ?_, hl⟩ (fun b hb => ?_) (by simp) (fun s' xs1 cp1 hm cell1 got => ?_) hn
  · simpa using hit
  · rcases List.mem_cons.mp hb with rfl | hb
    · exact Heap.lt_size ho1
    · rw [List.mem_singleton.mp hb]
      exact Heap.lt_size ho2
  · obtain ⟨hp, g, d, tk, os⟩ := s'
    have e1 : g = s.gens := hm.gens
    have e2 : d = s.drawn := hm.drawn
    have e3 : os = s.os := hm.os
    subst e1 e2 e3
    refine hQ hp tk xs1 cp1 (fun b o hb e => ?_) cell1 got
    refine hm.heap b o (fun inM => ?_) (Heap.get?_push_of_some _ e)
    rcases List.mem_cons.mp inM with e' | inM
    · exact absurd (Heap.lt_size e) (by rw [e']; exact Nat.lt_irrefl _)
    · exact hb (List.mem_singleton.mp inM)
end
section
variable {X : Cx}
def tListRev (K : PySem.W.Frag) (te : TE) : TE := fun σ H Q => te σ H fun v H1 => ∃ (a : Addr) (xs : List V), v = .ref a ∧ SqL K H1 a xs ∧ ∀ q, H1 q = none → Q (.ref q) (upd H1 q (.lst xs.reverse))
/-- list(reversed(x)), x a list: a new list -/
theorem pe_listRev {e : Expr} {te : TE} {p p2 pos pos2 : Pos} (hc : X.calm = true) (hg : Gl X "list") (hm : X.mg "list" = none) (hg2 : Gl X "reversed") (hm2 : X.mg "reversed" = none) (he : PE X e te)
    (hs : starEach [e] X.env = (false, eval e X.env) :: starEach [] X.env := by rfl)
    (hs2 : starEach [.Call (.Name "reversed" p2) [e] [] pos2] X.env = (false, eval (.Call (.Name "reversed" p2) [e] [] pos2) X.env) :: starEach [] X.env := by rfl) :
    PE X (.Call (.Name "list" p) [.Call (.Name "reversed" p2) [e] [] pos2] [] pos) (tListRev X.K te) := by
  refine ⟨fun pins s σ H Q I h => ?_⟩
  refine Call_ (ld_blt I hg hm boot_list (PyProof.Rows.callWith_type1 (args_cons (Call_ (ld_blt I hg2 hm2 PyProof.Rows.boot_reversed (PyProof.Rows.callWith_type1 (args_cons (thn (he.run pins s σ H _ I h) fun u s1 ⟨v, H1, I1, r1, q1⟩ => args_nil ?_) hs) hs rfl))) hs2) hs2 rfl))
  obtain ⟨a, xs, ev, hq, q⟩ := q1
  subst ev
  obtain rfl : u = Value.ref a := r1
  obtain ⟨its, rv, p', hz⟩ := I1.list hq
  refine call_reversed_list p'.isList (args_nil ?_)
  have k0 : ∀ b o, s1.heap.get? b = some o → (s1.heap.push (revObj a ((its.toArray.size : Int) - 1))).get? b = some o := fun b o e => Heap.get?_push_of_some _ e
  have I2 : Inv X pins σ H1 { s1 with heap := s1.heap.push (revObj a ((its.toArray.size : Int) - 1)) } := I1.kept (t' := s1.toks) k0
  obtain ⟨f0, f1, f2, f3, f4, f5⟩ := I1.fpOk (H' := H1) (b := s1.heap.objs.size) (Nat.le_refl _) (I1.hok.fresh (Nat.le_refl _))
  have hl := p'.isList
  obtain ⟨ol, hol, _⟩ := id hl
  have hne : a ≠ s1.heap.objs.size := Nat.ne_of_lt (Heap.lt_size hol)
  have hn : its.toArray.size ≤ sizeLine := by rw [List.size_toArray, ← rv.length]; exact hz
  refine call_list_rev (s := { s1 with heap := s1.heap.push (revObj a ((its.toArray.size : Int) - 1)) }) (I1.ok.hd hc) ⟨_, Heap.get?_push_size _ rfl, rfl, rfl⟩ (hl.push _) hne hn fun h' tk acc c hk cell hi => ?_
  generalize hN : (s1.heap.push (revObj a ((its.toArray.size : Int) - 1))).objs.size = N at cell
  have hlt : s1.heap.objs.size < N := by
    rw [← hN, Heap.size_push]
    exact Nat.lt_succ_self _
  have nN : H1 N = none := I2.hok.fresh (by rw [← hN]; exact Nat.le_refl _)
  have I3 := I2.laid (a := N) (o := .lst xs.reverse) (h' := (s1.heap.push (revObj a ((its.toArray.size : Int) - 1))).push { cls := .type "list", data := .seq acc c }) (t' := tk) (fun b o e => Heap.get?_push_of_some _ e) (by rw [← hN]; exact Nat.le_refl _)
    (show ObjOk X.prog X.w _ _ _ (.lst xs.reverse) from ⟨by rw [List.length_reverse]; exact hz, acc.toList, c, RT.vals_rev rv hi, by
      rw [Array.toArray_toList, ← hN]
      exact Heap.get?_push_size _ rfl⟩)
  have I4 : Inv X pins σ (upd H1 N (.lst xs.reverse)) { s1 with heap := h', toks := tk } := Inv.turned (s := { s1 with heap := (s1.heap.push (revObj a ((its.toArray.size : Int) - 1))).push { cls := .type "list", data := .seq acc c }, toks := tk }) I3 (t' := tk) (it := s1.heap.objs.size) (fun b o hb e => by
    rcases Heap.get?_push_cases (show ((s1.heap.push (revObj a ((its.toArray.size : Int) - 1))).push { cls := .type "list", data := .seq acc c }).get? b = some o from e) with ⟨e1q, e2q⟩ | e1q
    · rw [e1q, e2q, hN]
      exact cell
    · exact hk b o hb e1q) (by rw [upd_ne (Nat.ne_of_lt hlt)]; exact f0) f1 f3 f4 f5
  have fin : EP X pins σ Q (.ref N) { s1 with heap := h', toks := tk } := ⟨.ref N, upd H1 N (.lst xs.reverse), I4, rfl, q N nN⟩
  rw [← hN] at fin ⊢
  exact fin
end
end Dw

namespace Dw
open PySem PySem.Spec PyProof.Rows L2
section
variable {M : Md} {O : List Addr} {r : List Sl} {k : D → Prop} {ta tb te : TE} {tl : TA}
/-! ### slices -/
def cutD (xs : List D) (lo hi : Option Int) : List D := (xs.drop (HT.sIx xs.length 0 lo)).take (HT.sIx xs.length xs.length hi - HT.sIx xs.length 0 lo)
theorem cutD_len (xs : List D) (lo hi : Option Int) : (cutD xs lo hi).length ≤ xs.length := by
  unfold cutD
  rw [List.length_take, List.length_drop]
  omega
def DO (M : Md) (to : TO) (O : List Addr) (r : List Sl) (k : Option Int → Prop) : Prop :=
  ∀ σ H (Q : Option Int → Hp → Prop), Rp M O r σ H → (∀ o H', Rp M O r σ H' → Sm M.F0 H H' → k o → Q o H') → to σ H Q
theorem do_none {k : Option Int → Prop} (h : k none) : DO M tNoPart O r k := fun σ H Q R z => z none H R .refl h
theorem do_some {k : Option Int → Prop} (h : De M te O r fun x => ∃ i, x = .int i ∧ k (some i)) : DO M (tPart te) O r k := fun σ H Q R z => h σ H _ R fun v H1 x R1 e1 p1 q => by
  obtain ⟨i, rfl, q⟩ := q
  exact ⟨i, p1, z _ H1 R1 e1 q⟩
theorem cut_rep {K : PySem.W.Frag} {N : No} {H : Hp} {xs : List D} {vs : List V} (h : RepL K N H xs vs) (lo hi : Option Int) : RepL K N H (cutD xs lo hi) (cutV vs lo hi) := by
  unfold cutD cutV
  rw [← h.length]
  exact (h.drop _).take _
theorem de_slL {lo hi : TO} (h : De M te O r fun x => ∃ xs, x = .lst xs ∧ DO M lo O r fun i => DO M hi O r fun j => k (.lst (cutD xs i j))) : De M (tSl (rSlL M.K) te lo hi) O r k := fun σ H Q R z => h σ H _ R fun v H1 x R1 e1 p1 q => by
  obtain ⟨xs, rfl, q⟩ := q
  refine q σ H1 _ R1 fun i H2 R2 e2 q2 => q2 σ H2 _ R2 fun j H3 R3 e3 q3 => ?_
  obtain ⟨a, vs, rfl, h1, h2⟩ := (p1.step e2).step e3
  exact ⟨a, vs, rfl, h1.sq, fun p hp => z _ _ _ (R3.grow (sm_new hp)) (((e1.trans e2).trans e3).trans (sm_0 (sm_new hp))) (rep_lst R3 hp (cut_rep h2 i j)) q3⟩
/-! ### operators over lists -/
theorem de_ixL (h : De M ta O r fun x => De M tb O r fun y => ∃ xs i d, x = .lst xs ∧ y = .int i ∧ atI xs i = some d ∧ k d) : De M (tOp (rIxL M.K) ta tb) O r k := de_op2 h fun x y c σ H v u Q R pv pu z => by
  obtain ⟨xs, i, d, rfl, rfl, e, q⟩ := c
  obtain ⟨a, vs, rfl, h1, h2⟩ := pv
  obtain ⟨j, e1, e2, _⟩ := atI_get e
  obtain ⟨w, e3, e4⟩ := h2.get e2
  refine ⟨a, vs, i, w, rfl, pu, h1.sq, ?_, z w H d R .refl e4 q⟩
  unfold atI at e ⊢
  rw [← h2.length]
  cases e5 : ixN xs.length i with
  | none =>
    rw [e5] at e
    cases e
  | some m =>
    rw [e5] at e
    have e6 : xs[m]? = some d := e
    obtain ⟨e7, _⟩ := ixN_seq e5
    rw [e1] at e7
    cases e7
    exact e3
theorem de_ixT (h : De M ta O r fun x => De M tb O r fun y => ∃ xs i d, x = .tup xs ∧ y = .int i ∧ atI xs i = some d ∧ k d) : De M (tOp (rIxT M.K) ta tb) O r k := de_op2 h fun x y c σ H v u Q R pv pu z => by
  obtain ⟨xs, i, d, rfl, rfl, e, q⟩ := c
  obtain ⟨a, vs, rfl, h1, h2⟩ := pv
  obtain ⟨j, e1, e2, _⟩ := atI_get e
  obtain ⟨w, e3, e4⟩ := h2.get e2
  refine ⟨a, vs, i, w, rfl, pu, h1.sq, ?_, z w H d R .refl e4 q⟩
  unfold atI at e ⊢
  rw [← h2.length]
  cases e5 : ixN xs.length i with
  | none =>
    rw [e5] at e
    cases e
  | some m =>
    rw [e5] at e
    have e6 : xs[m]? = some d := e
    obtain ⟨e7, _⟩ := ixN_seq e5
    rw [e1] at e7
    cases e7
    exact e3
theorem lat_trk {K : PySem.W.Frag} {N : No} {H : Hp} {a : Addr} {vs : List V} (h : LAt K N H a vs) (n : ¬ SqL K H00 a vs) : Rd H a (.lst vs) := h.elim (fun z => z.2) fun z => (n z).elim
/-! ### built-ins -/
theorem de_len1 {f : List V → Hp → VK → Prop} (hf : ∀ (H : Hp) (a : Addr) (vs : List V) (Q : VK), (SqL M.K H a vs ∨ SqT M.K H a vs) → Q (.int vs.length) H → f [.ref a] H Q) (h : De M te O r fun x => ∃ xs, (x = .lst xs ∨ x = .tup xs) ∧ k (.int xs.length)) :
    De M (tCB f (tCons te tNil)) O r k := fun σ H Q R z => h σ H _ R fun v H1 x R1 e1 p1 q => by
  obtain ⟨xs, c, q⟩ := q
  rcases c with rfl | rfl
  · obtain ⟨a, vs, rfl, h1, h2⟩ := p1
    refine hf H1 a vs Q (.inl h1.sq) ?_
    rw [← h2.length]
    exact z _ H1 (.int xs.length) R1 e1 rfl q
  · obtain ⟨a, vs, rfl, h1, h2⟩ := p1
    refine hf H1 a vs Q (.inr h1.sq) ?_
    rw [← h2.length]
    exact z _ H1 (.int xs.length) R1 e1 rfl q
theorem de_len (h : De M te O r fun x => ∃ xs, (x = .lst xs ∨ x = .tup xs) ∧ k (.int xs.length)) :
    De M (tCB (fun xs H Q => ∃ p ys, xs = [.ref p] ∧ (SqL M.K H p ys ∨ SqT M.K H p ys) ∧ Q (.int ys.length) H) (tCons te tNil)) O r k :=
  de_len1 (fun H a vs Q h q => ⟨a, vs, rfl, h, q⟩) h
theorem de_lenS (h : De M te O r fun x => ∃ s : Str, x = .str s ∧ s.length ≤ sizeLine ∧ k (.int s.length)) :
    De M (tCB (fun xs H Q => ∃ z, xs = [.str z] ∧ z.length ≤ sizeLine ∧ Q (.int z.length) H) (tCons te tNil)) O r k := fun σ H Q R z => h σ H _ R fun v H1 x R1 e1 p1 q => by
  obtain ⟨s, rfl, hs, q⟩ := q
  have e : v = .str s := p1
  subst e
  exact ⟨s, rfl, hs, z _ H1 (.int s.length) R1 e1 rfl q⟩
theorem de_listOf (h : De M te O r fun x => ∃ xs, (x = .lst xs ∨ x = .tup xs) ∧ k (.lst xs)) :
    De M (tCB (fun xs H Q => ∃ p ys, xs = [.ref p] ∧ (SqL M.K H p ys ∨ SqT M.K H p ys) ∧ ∀ l, H l = none → Q (.ref l) (upd H l (.lst ys))) (tCons te tNil)) O r k := fun σ H Q R z => h σ H _ R fun v H1 x R1 e1 p1 q => by
  obtain ⟨xs, c, q⟩ := q
  rcases c with rfl | rfl
  · obtain ⟨a, vs, rfl, h1, h2⟩ := p1
    exact ⟨a, vs, rfl, .inl h1.sq, fun p hp => z _ _ (.lst xs) (R1.grow (sm_new hp)) (e1.trans (sm_0 (sm_new hp))) (rep_lst R1 hp h2) q⟩
  · obtain ⟨a, vs, rfl, h1, h2⟩ := p1
    exact ⟨a, vs, rfl, .inr h1.sq, fun p hp => z _ _ (.lst xs) (R1.grow (sm_new hp)) (e1.trans (sm_0 (sm_new hp))) (rep_lst R1 hp h2) q⟩
theorem de_tupleOf (h : De M te O r fun x => ∃ xs, (x = .lst xs ∨ x = .tup xs) ∧ k (.tup xs)) :
    De M (tCB (fun xs H Q => ∃ p ys, xs = [.ref p] ∧ ((SqL M.K H p ys ∧ ∀ l, H l = none → Q (.ref l) (upd H l (.tup ys))) ∨ (SqT M.K H p ys ∧ Q (.ref p) H))) (tCons te tNil)) O r k := fun σ H Q R z => h σ H _ R fun v H1 x R1 e1 p1 q => by
  obtain ⟨xs, c, q⟩ := q
  rcases c with rfl | rfl
  · obtain ⟨a, vs, rfl, h1, h2⟩ := p1
    exact ⟨a, vs, rfl, .inl ⟨h1.sq, fun p hp => z _ _ (.tup xs) (R1.grow (sm_new hp)) (e1.trans (sm_0 (sm_new hp))) (rep_tup R1 hp h2) q⟩⟩
  · obtain ⟨a, vs, rfl, h1, h2⟩ := p1
    exact ⟨a, vs, rfl, .inr ⟨h1.sq, z _ H1 (.tup xs) R1 e1 ⟨a, vs, rfl, h1, h2⟩ q⟩⟩
theorem de_listRev (h : De M te O r fun x => ∃ xs, x = .lst xs ∧ k (.lst xs.reverse)) : De M (tListRev M.K te) O r k := fun σ H Q R z => h σ H _ R fun v H1 x R1 e1 p1 q => by
  obtain ⟨xs, rfl, q⟩ := q
  obtain ⟨a, vs, rfl, h1, h2⟩ := p1
  exact ⟨a, vs, rfl, h1.sq, fun p hp => z _ _ (.lst xs.reverse) (R1.grow (sm_new hp)) (e1.trans (sm_0 (sm_new hp))) (rep_lst R1 hp h2.reverse) q⟩
theorem de_max2 (h : De M ta O r fun x => De M tb O r fun y => ∃ i j, x = .int i ∧ y = .int j ∧ k (.int (if j > i then j else i))) :
    De M (tCB (fun xs H Q => ∃ i j, xs = [V.int i, V.int j] ∧ Q (.int (if j > i then j else i)) H) (tCons ta (tCons tb tNil))) O r k := fun σ H Q R z => h σ H _ R fun v H1 x R1 e1 p1 q => q σ H1 _ R1 fun u H2 y R2 e2 p2 q2 => by
  obtain ⟨i, j, rfl, rfl, q2⟩ := q2
  have a1 : v = .int i := p1
  have a2 : u = .int j := p2
  subst a1 a2
  exact ⟨i, j, rfl, z _ H2 (.int (if j > i then j else i)) R2 (e1.trans e2) rfl q2⟩
theorem de_any (h : De M te O r fun x => ∃ bs : List Bool, x = .lst (bs.map D.bl) ∧ k (.bl (bs.any id))) : De M (tCB (rAny M.K) (tCons te tNil)) O r k := fun σ H Q R z => h σ H _ R fun v H1 x R1 e1 p1 q => by
  obtain ⟨bs, rfl, q⟩ := q
  obtain ⟨a, vs, rfl, h1, h2⟩ := p1
  rw [repL_bls h2] at h1
  exact ⟨a, bs, rfl, h1.sq, z _ H1 (.bl (bs.any id)) R1 e1 rfl q⟩
theorem de_all (h : De M te O r fun x => ∃ bs : List Bool, x = .lst (bs.map D.bl) ∧ k (.bl (bs.all id))) : De M (tCB (rAll M.K) (tCons te tNil)) O r k := fun σ H Q R z => h σ H _ R fun v H1 x R1 e1 p1 q => by
  obtain ⟨bs, rfl, q⟩ := q
  obtain ⟨a, vs, rfl, h1, h2⟩ := p1
  rw [repL_bls h2] at h1
  exact ⟨a, bs, rfl, h1.sq, z _ H1 (.bl (bs.all id)) R1 e1 rfl q⟩
theorem de_sum (h : De M te O r fun x => ∃ bs : List Int, x = .lst (bs.map D.int) ∧ k (.int bs.sum)) : De M (tCB (rSum M.K) (tCons te tNil)) O r k := fun σ H Q R z => h σ H _ R fun v H1 x R1 e1 p1 q => by
  obtain ⟨bs, rfl, q⟩ := q
  obtain ⟨a, vs, rfl, h1, h2⟩ := p1
  rw [repL_ints h2] at h1
  exact ⟨a, bs, rfl, h1.sq, z _ H1 (.int bs.sum) R1 e1 rfl q⟩
theorem dt_yes {kt : Bool → Prop} (h : kt true) : DT M tYes O r kt := fun σ H Q R z => z true H R .refl h
/-- a statement told over data, then the rest by hand -/
theorem raw_seq {ts tz : TS} {σ : L2.St} {H : Hp} {Z : Ends} (E : List Addr → List Sl → Prop) (R : Rp M O r σ H) (h : DS M ts O r { nx := E, rt := fun _ => False })
    (q : ∀ O1 r1 σ1 H1, Rp M O1 r1 σ1 H1 → Stp M O H O1 H1 → E O1 r1 → tz Z σ1 H1) : tSeq ts tz Z σ H :=
  h σ H _ R ⟨fun O1 r1 σ1 H1 R1 s1 q1 => q O1 r1 σ1 H1 R1 s1 q1, fun _ _ _ _ _ _ z => z.elim, fun _ _ _ _ _ _ z => z.elim, fun _ _ _ _ _ _ z => z.elim⟩
theorem ints_of {P : Int → Prop} : ∀ {ys : List D}, (∀ (i : Nat) y, ys[i]? = some y → ∃ n, y = .int n ∧ P n) → ∃ ms : List Int, ys = ms.map D.int ∧ ∀ m ∈ ms, P m
  | [], _ => ⟨[], rfl, fun _ h => nomatch h⟩
  | y :: ys, h => by
    obtain ⟨n, e, p⟩ := h 0 y rfl
    obtain ⟨ms, e2, p2⟩ := ints_of (ys := ys) fun i y hy => h (i + 1) y hy
    refine ⟨n :: ms, by rw [e, e2]; rfl, fun m hm => ?_⟩
    rcases List.mem_cons.mp hm with rfl | hm
    · exact p
    · exact p2 m hm
end
end Dw

/-! defs that are called where nothing is being shown by repr: FnG; their bodies, their calls, a law's end. -/
namespace Dw
open PySem PySem.Spec PyProof.Rows L2
structure FnG (P : Program) (w : World) (K : PySem.W.Frag) (mg : Str → Option Value) (base : Heap) (k : Nat) (f : Addr) (fd : FuncData) (ps : List Str) (sp : Sp) : Prop where
  len : ∀ vs H Q E, sp vs H Q E → vs.length = ps.length
  run : ∀ (A : Around) (outer : List Env) (s : Shared) (H : Hp) (args : Args) (us : List Value) (vs : List V) (Q : VK) (E : XK),
    A.guards = some [] → Room k A → Env0 P w K mg base A outer s H → BindsTo s fd args (ps.zip us) → Vals vs us → sp vs H Q E → codeAny (model P w) A (.call (.ref f) args) (CR CX0 outer P w H s Q E) s
section
variable {P : Program} {w : World} {K : PySem.W.Frag} {mg : Str → Option Value} {base : Heap}
theorem fng_of {x qual : Str} {st : Stmt} {f : Addr} {fd : FuncData} {N ps : List Str} {k : Nat} {sp : Sp} (F : Fun K x qual st f fd) (T : FnScope N ps (defScope st)) (len : ∀ vs H Q E, sp vs H Q E → vs.length = ps.length)
    (bd : ∀ (cdv : Value) (A : Around) (outer : List Env) (s : Shared) (H : Hp) (vs : List V) (Q : VK) (E : XK), A.guards = some [] → Room k (A.deeper (envOfC qual (defScope st) s.heap.objs.size f cdv)) → sp vs H Q E →
      ∃ t, PSs (cxOf CX0 P w K mg base N qual (defScope st) f cdv A outer s H E).nox (defBody st) t ∧ t { nx := fun _ H' => Q .non H', rt := Q } (L2.start N vs) H) : FnG P w K mg base (k + 1) f fd ps sp := by
  obtain ⟨oc, od, kV, doc, pm, an, cdv, ct, osl, rfl, lk, hcd⟩ := F.ex
  constructor
  · exact len
  · intro A outer s H args us vs Q E hg hr e0 hb r hsp
    have keep : ∀ b o, base.get? b = some o → s.heap.get? b = some o := fun b o e => (e0.bs b o e).1
    have KX := e0.mod.kin.keeps keep
    have lim := e0.mod.nolimit.keeps keep
    have kinds : ∀ y ∈ ps.zip us, (defScope st).names.lookup y.1 = some .local ∨
        ((defScope st).names.lookup y.1 = some .cell ∧ ((cellsFrom (s.heap.objs.size + 1) (defScope st).names []).lookup y.1).isSome = true) := by
      rintro ⟨n, v⟩ hy
      refine (T.par n (List.of_mem_zip hy).1).imp id fun q => ⟨q, ?_⟩
      exact PySem.W.cellsFrom_some _ _ _ (.inl q)
    have hlen := len _ _ _ _ hsp
    refine codeAny_call_function hr.depth (KX _ _ lk) rfl T.co T.gen rfl (PySem.W.codeRec_of KX hcd)
      (hb _ _ _ _ (wpAny_newFunctionEnv_cells T.kind kinds fun env he s1 x => ?_))
    subst he
    obtain ⟨t, ht, hq⟩ := bd cdv A outer s H vs Q E hg (hr.deeper _) hsp
    have I0 := inv_start (CX := CX0) (P := P) (mg := mg) (E := E) T hr.hd e0 hlen r x
    refine ⟨lim.keeps x.toInCall.keep, codeAny_func (wpAny_mono (ht.nox.run [] s1 (L2.start N vs) H _ I0 hq)
      (fun fl s' hs => ?_) (fun e s' hs => hs))⟩
    match fl, hs with
    | .ret u, ⟨v, σ', H', J, rv, q⟩ => exact ⟨v, H', J.os, J.bare, J.base, J.hok, rv, q⟩
    | .next, ⟨σ', H', J, q⟩ => exact ⟨.non, H', J.os, J.bare, J.base, J.hok, rfl, q⟩
    | .brk, ⟨_, _, _, q⟩ => exact q.elim
    | .cont, ⟨_, _, _, q⟩ => exact q.elim
theorem FnOk.g {k : Nat} {f : Addr} {fd : FuncData} {ps : List Str} {sp : Sp} (F : FnOk P w K mg base CX0 k f fd ps sp) : FnG P w K mg base k f fd ps sp :=
  ⟨F.len, fun A outer s H args us vs Q E _ hr => F.run A outer s H args us vs Q E hr⟩
theorem FnG.mono {j k : Nat} {f : Addr} {fd : FuncData} {ps : List Str} {sp : Sp} (F : FnG P w K mg base j f fd ps sp) (h : j ≤ k) : FnG P w K mg base k f fd ps sp :=
  ⟨F.len, fun A outer s H args us vs Q E hg hr => F.run A outer s H args us vs Q E hg (hr.mono h)⟩
end
section
variable {X : Cx} {k : Nat} {f : Addr} {fd : FuncData} {ps : List Str} {sp : Sp} {E : XK} {x : Str} {p pos : Pos} {e : Expr} {es : List Expr} {t : TA}
theorem run_g {pins : List (Addr × Obj)} {σ : L2.St} {H : Hp} {s : Shared} {Q : VK} {us : List Value} {vs : List V} (F : FnG X.prog X.w X.K X.mg X.base k f fd ps sp) (hg : X.A.guards = some []) (hr : Room k X.A) (hb : Binds X.K fd ps [])
    (I : Inv X pins σ H s) (r : Vals vs us) (h : sp vs H Q E) : wpAny (model X.prog X.w) X.A (call (.ref f) us) (EP X pins σ Q) X.xe s := by
  have hl : us.length = ps.length := by rw [← r.length]; exact F.len _ _ _ _ h
  have bb := hb s us I.kIn (by rw [List.append_nil]; exact hl)
  rw [List.append_nil] at bb
  refine wpAny_call (codeAny_mono (F.run X.A X.stack s H ⟨us, []⟩ us vs Q E hg hr I.env0 bb r h) fun r s' hq => ?_)
  match r, hq with
  | .ok (.ret u), hq => exact I.after hq
  | .ok .next, hq => exact False.elim hq
  | .ok .brk, hq => exact False.elim hq
  | .ok .cont, hq => exact False.elim hq
  | .error e, hq => exact False.elim hq
theorem pe_callG (F : FnG X.prog X.w X.K X.mg X.base k f fd ps sp) (gd : X.A.guards = some []) (hr : Room k X.A) (hg : Gl X x) (hm : X.mg x = some (.ref f)) (hk : PySem.W.keepIn X.K (.ref f) = true) (hb : Binds X.K fd ps [])
    (ha : PA X (e :: es) t) (hdb : (x == ("__debug__" : Str)) = false := by decide) (he : starEach (e :: es) X.env = (false, eval e X.env) :: starEach es X.env := by rfl) (hpl : (backTo pos (starEach es X.env)).any (·.1) = false := by rfl) :
    PE X (.Call (.Name x p) (e :: es) [] pos) (tCall sp [] E t) := ⟨fun pins s σ H Q I h =>
  wpAny_Call_Name_kw (ld_glob I hg hm (PySem.W.callWith_K (h₀ := X.base) I.ok.mod.kin hk
    (thn (ha.run pos pins s σ H _ I h) fun us s1 ⟨vs, H1, I1, r, q⟩ => ⟨I1.kIn, run_g F gd hr hb I1 r (show sp vs H1 Q E from by
      have q2 : sp (vs ++ []) H1 Q E := q
      rw [List.append_nil] at q2
      exact q2)⟩) he hpl) hdb)⟩
end
/-- a law's call, from the promise of its def -/
theorem law_g {P : Program} {w : World} {K : PySem.W.Frag} {mg mb : Str → Option Value} {k : Nat} {fa a : Addr} {fd : FuncData} {x : Str} {sp : Sp} {s1 : Shared} {vs : List Value} {ns : List Int}
    (KX : K.In s1.heap) (hns : s1.heap.Ns mainGlobals mg) (hb : s1.heap.Ns builtinsNs mb) (hbb : ∀ x : Str, x ≠ "__name__" → mb x = bootBuiltins x) (hlim : s1.heap.NoLimit) (hg : s1.gens = #[])
    (ha : s1.heap.get? a = some { cls := .type "list", data := .seq vs.toArray }) (hi : IntsAre vs ns) (hl : ns.length ≤ sizeLine) (hr : Room k callerA)
    (F : ∀ base : Heap, K.In base → base.Ns mainGlobals mg → FnG P w K mg base k fa fd [x] sp) (hbind : ∀ (s : Shared) (u : Value), BindsTo s fd ⟨[u], []⟩ [(x, u)])
    (hsp : ∀ H : Hp, Only H → SqL K H a (ns.map V.int) → sp [.ref a] H (fun v _ => v = .bl true) fun _ _ _ => False) :
    codeAny (model P w) callerA (.call (.ref fa) ⟨[.ref a], []⟩) (fun r s' => r = .ok (.ret (.bool true)) ∧ OldK s1.heap s'.heap ∧ s'.os = s1.os ∧ AllBare s'.gens) s1 := by
  -- by the library's own end, for a promise that gives the call back as it is told
  have rv := vals_ints hi
  have main : ∀ H : Hp, Only H → SqL K H a (ns.map V.int) → HOk P w H s1.heap → (∀ b, H b ≠ none → b = a) → (H a ≠ none → K.lookup a = none) →
      codeAny (model P w) callerA (.call (.ref fa) ⟨[.ref a], []⟩) (fun r s' => r = .ok (.ret (.bool true)) ∧ OldK s1.heap s'.heap ∧ s'.os = s1.os ∧ AllBare s'.gens) s1 := by
    intro H hO hS hok hA hK
    have free : ∀ {b : Addr} {o : Obj}, s1.heap.get? b = some o → (∀ its n, o.data ≠ .seq its n) → H b = none := fun {b o} e d => by
      refine Classical.byContradiction fun q => ?_
      have := hA b q
      subst this
      rw [ha] at e
      cases e
      exact d _ _ rfl
    have nsB : ∀ {b : Addr} {m : Str → Option Value}, s1.heap.Ns b m → (hidT s1.heap H).Ns b m := by
      rintro b m ⟨o, es, ep, e, d, r⟩
      exact ⟨o, es, ep, hidT_get e (free e fun its n z => by rw [d] at z; cases z), d, r⟩
    have kB : K.In (hidT s1.heap H) := by
      intro b o e
      refine hidT_get (KX b o e) (Classical.byContradiction fun q => ?_)
      have := hA b q
      subst this
      rw [hK q] at e
      cases e
    obtain ⟨mc, l1, l2⟩ := hlim
    have env : Env0 P w K mg (hidT s1.heap H) callerA [] s1 H := {
      frames := rfl
      mod := ⟨kB, nsB hns, ⟨mb, nsB hb, hbb⟩, ⟨mc, nsB l1, l2⟩⟩
      bs := fun b o e => of_hidT e
      bsz := Nat.le_of_eq (hidT_size _ _)
      funs := trivial
      frf := fun b hb => nomatch (show b ∈ ([] : List Addr) from hb)
      hok := hok
      bare := .of_eq hg }
    have go := (F _ kB (nsB hns)).run callerA [] s1 H ⟨[.ref a], []⟩ [.ref a] [.ref a] _ _ rfl hr env (hbind s1 (.ref a)) (.cons rfl .nil) (hsp H hO hS)
    refine codeAny_mono go fun r s' h => ?_
    match r, h with
    | .error e, h => exact False.elim h
    | .ok .next, h => exact False.elim h
    | .ok .brk, h => exact False.elim h
    | .ok .cont, h => exact False.elim h
    | .ok (.ret u), ⟨v, H', os, bare, un, hok', r', q⟩ =>
      have q' : v = .bl true := q
      subst q'
      obtain rfl : u = Value.bool true := r'
      refine ⟨rfl, OldK.of_keep fun b o e => ?_, os, bare⟩
      cases hb : H b with
      | none => exact un.keep b o e hb (fun z => nomatch (show b ∈ ([] : List Addr) from z)) (fun z => nomatch z)
      | some u =>
        rcases hO b with z | ⟨ob, xs, z⟩
        · rw [hb] at z
          cases z
        · have e1 := (hok b _ z).1
          have e2 := (hok' b _ (un.frzs b ob _ z)).1
          rw [e] at e1
          cases e1
          exact e2
  cases hk : K.lookup a with
  | some o =>
    have e := KX a o hk
    rw [ha] at e
    cases e
    have h0 : SqL K (fun _ => none) a (ns.map V.int) := .inr ⟨_, vs.toArray, _, hk, rfl, rfl, rfl, by
      rw [List.size_toArray, hi.length]
      exact hl, by simpa using rv⟩
    exact main (fun _ => none) (fun _ => .inl rfl) h0 (fun b u z => nomatch (show (none : Option HO) = some u from z)) (fun b z => absurd rfl z) fun z => absurd rfl z
  | none =>
    let H1 : Hp := upd (fun _ => none) a (.frz { cls := .type "list", data := .seq vs.toArray } (.lst (ns.map V.int)))
    have at' : ∀ b, b ≠ a → H1 b = none := fun b hb => upd_ne hb
    refine main H1 (fun b => ?_) (.inl (.inr ⟨_, upd_same⟩)) (fun b u z => ?_) (fun b z => Classical.byContradiction fun q => z (at' b q)) fun _ => hk
    · by_cases hb : b = a
      · rw [hb]
        exact .inr ⟨_, _, upd_same⟩
      · exact .inl (at' b hb)
    · by_cases hb : b = a
      · subst hb
        have z2 : some (HO.frz { cls := .type "list", data := .seq vs.toArray } (.lst (ns.map V.int))) = some u := upd_same.symm.trans z
        cases z2
        exact ⟨ha, by rw [List.length_map]; exact hl, vs, _, rv, ha⟩
      · rw [at' b hb] at z
        cases z
/-- what the head leaves, from the promise of the law's def -/
theorem walk_g {l : PySem.W.OpenLaw} {n k : Nat} {q : Program} {loose : List Str} {XP : (Str → Option Value) → Heap → Prop} {YP : World → Heap → Prop} {d : DefRec} {K : Params → PySem.W.Frag} {sp : World → Sp} {x : Str}
    (hn : l.most = some n) (hn2 : n ≤ sizeLine) (hdf : d.params.defaults = []) (hr : Room k callerA) (hY : ∀ (w : World) (h : Heap), YP w h → (K w.params).In h)
    (F : ∀ (w : World) (mg : Str → Option Value) (fa : Addr) (h : Heap), (K w.params).In h → h.Ns mainGlobals mg → mg d.name = some (.ref fa) →
      ∃ fd : FuncData, (∀ (s : Shared) (u : Value), BindsTo s fd ⟨[u], []⟩ [(x, u)]) ∧ ∀ base : Heap, (K w.params).In base → base.Ns mainGlobals mg → FnG l.prog w (K w.params) mg base k fa fd [x] (sp w))
    (hsp : ∀ (w : World) (H : Hp) (a : Addr) (ns : List Int), ns.length ≤ n → Only H → SqL (K w.params) H a (ns.map V.int) → sp w [.ref a] H (fun v _ => v = .bl true) fun _ _ _ => False) :
    PySem.W.WalkO q loose XP YP l.row.toRowW d [] (fun f vs => PySem.call f vs) := by
  refine Att.attach_callB hn hdf ?_
  intro w s0 s1 mg mb fa o pm cd doc a vs ns G Y ho hd hcd hmg hobj hints hlen _ hg
  have KX := hY w _ Y
  obtain ⟨fd, hb, hF⟩ := F w mg fa _ KX G.T.g hmg
  exact law_g KX G.T.g G.T.b G.T.builtins G.T.nolimit hg hobj hints (Nat.le_trans hlen hn2) hr hF hb fun H hO hS => hsp w H a ns hlen hO hS
end Dw

namespace Dw
open PySem PySem.Spec PyProof.Rows L2
/-! ### data without objects of own classes, as the library's data -/
mutual
def D.py : D → PyData
  | .non => .none
  | .bl b => .bool b
  | .int i => .int i
  | .str s => .str s
  | .ref _ => .none
  | .lst xs => .list (D.pyL xs)
  | .tup xs => .tuple (D.pyL xs)
  | .ins _ _ _ => .none
  | .exc _ _ _ => .none
def D.pyL : List D → List PyData
  | [] => []
  | d :: ds => d.py :: D.pyL ds
end
mutual
/-- of none, bools, ints below 2 ^ 1920, texts, lists and tuples -/
def D.pl : D → Bool
  | .non => true
  | .bl _ => true
  | .int i => decide (i.natAbs.log2 < 1920)
  | .str s => PyData.strOk s
  | .ref _ => false
  | .lst xs => D.plL xs
  | .tup xs => D.plL xs
  | .ins _ _ _ => false
  | .exc _ _ _ => false
def D.plL : List D → Bool
  | [] => true
  | d :: ds => d.pl && D.plL ds
end
mutual
theorem dp_of {K : PySem.W.Frag} {N : No} {H : Hp} : ∀ {d : D} {v : V}, d.pl = true → Rep K N H d v → Dp K H v d.py
  | .non, v, _, h => by
    have e : v = .non := h
    subst e
    exact .non
  | .bl b, v, _, h => by
    have e : v = .bl b := h
    subst e
    exact .bl b
  | .int i, v, _, h => by
    have e : v = .int i := h
    subst e
    exact .int i
  | .str s, v, _, h => by
    have e : v = .str s := h
    subst e
    exact .str s
  | .ref _, _, p, _ => nomatch (show false = true from p)
  | .lst xs, v, p, h => by
    obtain ⟨a, vs, rfl, h1, h2⟩ := h
    exact .lst h1.sq (dpL_of (show D.plL xs = true from p) h2)
  | .tup xs, v, p, h => by
    obtain ⟨a, vs, rfl, h1, h2⟩ := h
    exact .tup h1.sq (dpL_of (show D.plL xs = true from p) h2)
  | .ins _ _ _, _, p, _ => nomatch (show false = true from p)
  | .exc _ _ _, _, p, _ => nomatch (show false = true from p)
theorem dpL_of {K : PySem.W.Frag} {N : No} {H : Hp} : ∀ {ds : List D} {vs : List V}, D.plL ds = true → RepL K N H ds vs → DpAll K H vs (D.pyL ds)
  | [], vs, _, h => by
    have e : vs = [] := h
    subst e
    exact .nil
  | d :: ds, vs, p, h => by
    obtain ⟨v, r, rfl, h1, h2⟩ := h
    have p2 : (d.pl && D.plL ds) = true := p
    rw [Bool.and_eq_true] at p2
    exact .cons (dp_of p2.1 h1) (dpL_of p2.2 h2)
end
mutual
theorem py_show : ∀ d : D, d.pl = true → d.py.showable = true ∧ d.py.canLay0 = true
  | .non, _ => ⟨rfl, rfl⟩
  | .bl _, _ => ⟨rfl, rfl⟩
  | .int _, p => ⟨p, rfl⟩
  | .str _, p => ⟨rfl, p⟩
  | .ref _, p => nomatch (show false = true from p)
  | .lst xs, p => py_showL xs p
  | .tup xs, p => py_showL xs p
  | .ins _ _ _, p => nomatch (show false = true from p)
  | .exc _ _ _, p => nomatch (show false = true from p)
theorem py_showL : ∀ ds : List D, D.plL ds = true → PyData.showableAll (D.pyL ds) = true ∧ PyData.canLayAll0 (D.pyL ds) = true
  | [], _ => ⟨rfl, rfl⟩
  | d :: ds, p => by
    have p2 : (d.pl && D.plL ds) = true := p
    rw [Bool.and_eq_true] at p2
    have h1 := py_show d p2.1
    have h2 := py_showL ds p2.2
    exact ⟨by show (d.py.showable && PyData.showableAll (D.pyL ds)) = true; rw [h1.1, h2.1]; rfl, by show (d.py.canLay0 && PyData.canLayAll0 (D.pyL ds)) = true; rw [h1.2, h2.2]; rfl⟩
end
/-- what repr gives -/
def D.shown (d : D) : Str := d.py.shown
section
variable {X : Cx}
def rReprD (K : PySem.W.Frag) : List V → Hp → VK → Prop := fun xs H Q => ∃ (x : V) (d : PyData), xs = [x] ∧ Dp K H x d ∧ d.showable = true ∧ d.hasDict = false ∧ d.depth ≤ 60 ∧ d.shown.length ≤ sizeLine ∧ Q (.str d.shown) H
theorem call_reprD (hg : X.A.guards = some []) (hu : X.A.units + 64 < cLine) : CallR X (.builtin "repr") (rReprD X.K) := by
  intro pins s σ H xs us Q I r h
  obtain ⟨x, d, rfl, hd, hs, hdd, hdp, hz, q⟩ := h
  obtain ⟨u, rfl, ru⟩ := vals1 r
  obtain ⟨as, rd⟩ := Dp.reads I d x u hd ru
  cases d with
  | none =>
    cases rd
    exact PySem.P.repr_of_none ⟨.str "None", H, I.tok _, ⟨_, rfl⟩, q⟩
  | bool b =>
    cases rd
    exact PySem.P.repr_of_bool ⟨.str (if b then "True" else "False"), H, I.tok _, ⟨_, rfl⟩, q⟩
  | int i =>
    cases rd
    exact PySem.P.repr_of_int (of_decide_eq_true hs) ⟨.str (toString i), H, I.tok _, ⟨_, rfl⟩, q⟩
  | str z =>
    cases rd
    exact PySem.P.repr_of_str ⟨.str (reprText z), H, I.tok _, ⟨_, rfl⟩, q⟩ hz
  | list ds =>
    cases hd with
    | lst h1 h2 =>
      cases ru
      refine repr_of_reads' rd hs (PyData.noDict_hsm hdd) hg (by omega) (fun _ _ e => e) (fun h' u tk hk => ?_) hz
      exact ⟨.str _, H, I.kept (h' := h') (t' := tk) hk, ⟨_, rfl⟩, q⟩
  | tuple ds =>
    cases hd with
    | tup h1 h2 =>
      cases ru
      refine repr_of_reads' rd hs (PyData.noDict_hsm hdd) hg (by omega) (fun _ _ e => e) (fun h' u tk hk => ?_) hz
      exact ⟨.str _, H, I.kept (h' := h') (t' := tk) hk, ⟨_, rfl⟩, q⟩
  | dict kvs => cases hd
end
/-- shown within B signs, at most n deep -/
def D.ok (n B : Nat) (d : D) : Prop := d.pl = true ∧ d.py.depth ≤ n ∧ d.shown.length ≤ B
theorem ok_non : D.ok 0 4 .non := ⟨rfl, Nat.zero_le _, by decide⟩
theorem ok_bl {b : Bool} : D.ok 0 5 (.bl b) := ⟨rfl, Nat.zero_le _, by cases b <;> decide⟩
theorem depthAll_le {n : Nat} : ∀ {xs : List D}, (∀ x ∈ xs, x.py.depth ≤ n) → PyData.depthAll (D.pyL xs) ≤ n
  | [], _ => Nat.zero_le _
  | x :: xs, h => by
    show max x.py.depth (PyData.depthAll (D.pyL xs)) ≤ n
    exact Nat.max_le.mpr ⟨h x (by simp), depthAll_le fun y hy => h y (by simp [hy])⟩
theorem plL_of : ∀ {xs : List D}, (∀ x ∈ xs, x.pl = true) → D.plL xs = true
  | [], _ => rfl
  | x :: xs, h => by
    show (x.pl && D.plL xs) = true
    rw [h x (by simp), plL_of fun y hy => h y (by simp [hy])]
    rfl
theorem shownAll_len {B : Nat} : ∀ {xs : List D}, (∀ x ∈ xs, x.shown.length ≤ B) → ((PyData.shownAll (D.pyL xs)).map (·.length)).sum ≤ xs.length * B ∧ (PyData.shownAll (D.pyL xs)).length = xs.length
  | [], _ => ⟨Nat.zero_le _, rfl⟩
  | x :: xs, h => by
    have h1 := h x (by simp)
    have h2 := shownAll_len (xs := xs) fun y hy => h y (by simp [hy])
    constructor
    · show ((x.py.shown :: PyData.shownAll (D.pyL xs)).map (·.length)).sum ≤ _
      rw [List.map_cons, List.sum_cons, List.length_cons, Nat.add_mul, Nat.one_mul]
      have h3 : x.py.shown.length ≤ B := h1
      omega
    · show (x.py.shown :: PyData.shownAll (D.pyL xs)).length = _
      rw [List.length_cons, h2.2, List.length_cons]
theorem ok_lst {n B L : Nat} {xs : List D} (h : ∀ x ∈ xs, D.ok n B x) (hl : xs.length ≤ L) : D.ok (n + 1) (L * (B + 2) + 3) (.lst xs) := by
  refine ⟨plL_of fun x hx => (h x hx).1, Nat.succ_le_succ (depthAll_le fun x hx => (h x hx).2.1), ?_⟩
  obtain ⟨h1, h2⟩ := shownAll_len (xs := xs) fun x hx => (h x hx).2.2
  have h3 := listText_len_le (PyData.shownAll (D.pyL xs))
  show (listText (PyData.shownAll (D.pyL xs))).length ≤ _
  have h4 : xs.length * B + 2 * xs.length = xs.length * (B + 2) := by rw [Nat.mul_add, Nat.mul_comm 2]
  have h5 : xs.length * (B + 2) ≤ L * (B + 2) := Nat.mul_le_mul_right _ hl
  omega
section
variable {X : Cx} {M : Md} {O : List Addr} {r : List Sl} {k : D → Prop} {ta tb te : TE}
theorem de_repr (h : De M te O r fun x => ∃ n B, D.ok n B x ∧ n ≤ 60 ∧ B ≤ sizeLine ∧ k (.str x.shown)) : De M (tCB (rReprD M.K) (tCons te tNil)) O r k := fun σ H Q R z => h σ H _ R fun v H1 x R1 e1 p1 q => by
  obtain ⟨n, B, hk, hn, hB, q⟩ := q
  have hs := py_show x hk.1
  exact ⟨v, x.py, rfl, dp_of hk.1 p1, hs.1, PyData.hasDict_of_canLay _ hs.2, Nat.le_trans hk.2.1 hn, Nat.le_trans hk.2.2 hB, z _ H1 (.str x.shown) R1 e1 rfl q⟩
theorem de_eqD (h : De M ta O r fun x => De M tb O r fun y => (x.pl = true ∧ x.py.depth ≤ 64) ∧ (y.pl = true ∧ y.py.depth ≤ 64) ∧ k (.bl (PyData.eqv x.py y.py))) : De M (tOp (rEqD M.K) ta tb) O r k := de_op2 h fun x y c σ H v u Q R pv pu z => by
  obtain ⟨⟨p1, d1⟩, ⟨p2, d2⟩, q⟩ := c
  have s1 := py_show x p1
  have s2 := py_show y p2
  refine ⟨x.py, y.py, dp_of p1 pv, dp_of p2 pu, ?_, ?_, z _ H (.bl _) R .refl rfl q⟩
  · unfold SeqAt.shaped
    rw [s1.2, decide_eq_true d1]
    rfl
  · unfold SeqAt.shaped
    rw [s2.2, decide_eq_true d2]
    rfl
theorem de_neD (h : De M ta O r fun x => De M tb O r fun y => (x.pl = true ∧ x.py.depth ≤ 64) ∧ (y.pl = true ∧ y.py.depth ≤ 64) ∧ k (.bl (!PyData.eqv x.py y.py))) : De M (tOp (rNeD M.K) ta tb) O r k := de_op2 h fun x y c σ H v u Q R pv pu z => by
  obtain ⟨⟨p1, d1⟩, ⟨p2, d2⟩, q⟩ := c
  have s1 := py_show x p1
  have s2 := py_show y p2
  refine ⟨x.py, y.py, dp_of p1 pv, dp_of p2 pu, ?_, ?_, z _ H (.bl _) R .refl rfl q⟩
  · unfold SeqAt.shaped
    rw [s1.2, decide_eq_true d1]
    rfl
  · unfold SeqAt.shaped
    rw [s2.2, decide_eq_true d2]
    rfl
/-- xs + ys, lists of any kind -/
def rCatA (K : PySem.W.Frag) : R2 := fun x y H Q => ∃ l b xs zs, x = .ref l ∧ y = .ref b ∧ SqL K H l xs ∧ SqL K H b zs ∧ xs.length + zs.length ≤ sizeLine ∧ ∀ p, H p = none → Q (.ref p) (upd H p (.lst (xs ++ zs)))
theorem op_catA : OpR X (binaryOp .Add) (rCatA X.K) := by
  intro pins s σ H x y v u Q I rx ry h
  obtain ⟨l, b, xs, zs, rfl, rfl, hH, hB, hz, q⟩ := h
  cases rx
  cases ry
  obtain ⟨its, r1, p1, z1⟩ := I.list hH
  obtain ⟨its2, r2, p2, z2⟩ := I.list hB
  obtain ⟨o1, n1, e1, c1, d1, q1⟩ := p1
  obtain ⟨o2, n2, e2, c2, d2, q2⟩ := p2
  obtain ⟨cls, dd, data, sl⟩ := o1
  obtain ⟨cls2, dd2, data2, sl2⟩ := o2
  simp only at c1 q1 c2 q2
  subst c1 q1 c2 q2
  have l1 := r1.length
  have l2 := r2.length
  have hs : its.toArray.size + its2.toArray.size ≤ sizeLine := by rw [List.size_toArray, List.size_toArray]; omega
  refine concat_meets ⟨_, e1, rfl⟩ ⟨_, e2, rfl⟩ noFill_list_add seq_list_add PySem.F.slot_list_add PySem.F.entry_list_add (PySem.F.args_list_add_2 _ _)
    (list_addW l b its.toArray its2.toArray n1 n2 dd dd2 sl sl2 hs) ⟨e1, e2, ?_⟩
  have ea : its.toArray ++ its2.toArray = (its ++ its2).toArray := by simp
  rw [ea]
  exact ⟨.ref _, _, I.lnew (t' := s.toks) (r1.append r2) (by rw [List.length_append]; omega), rfl, q _ I.fresh⟩
theorem de_catA (h : De M ta O r fun x => De M tb O r fun y => ∃ xs ys, x = .lst xs ∧ y = .lst ys ∧ xs.length + ys.length ≤ sizeLine ∧ k (.lst (xs ++ ys))) : De M (tOp (rCatA M.K) ta tb) O r k := de_op2 h fun x y c σ H v u Q R pv pu z => by
  obtain ⟨xs, ys, rfl, rfl, hz, q⟩ := c
  obtain ⟨a, vs, rfl, h1, h2⟩ := pv
  obtain ⟨b, ws, rfl, h3, h4⟩ := pu
  exact ⟨a, b, vs, ws, rfl, rfl, h1.sq, h3.sq, by rw [← h2.length, ← h4.length]; exact hz, fun p hp => z _ _ _ (R.grow (sm_new hp)) (sm_0 (sm_new hp)) (rep_lst R hp (h2.append h4)) q⟩
end
end Dw

/-! Dw7: enumerate over a list; how long a tuple is shown. -/
namespace Dw
open PySem PySem.Spec PyProof.Rows L2
theorem ok_tup {n B L : Nat} {xs : List D} (h : ∀ x ∈ xs, D.ok n B x) (hl : xs.length ≤ L) : D.ok (n + 1) (L * (B + 2) + 3) (.tup xs) := by
  obtain ⟨h1, h2⟩ := shownAll_len (xs := xs) fun x hx => (h x hx).2.2
  have h3 := tupleText_len_le (PyData.shownAll (D.pyL xs))
  have h4 : xs.length * B + 2 * xs.length = xs.length * (B + 2) := by rw [Nat.mul_add, Nat.mul_comm 2]
  have h5 : xs.length * (B + 2) ≤ L * (B + 2) := Nat.mul_le_mul_right _ hl
  exact ⟨plL_of fun x hx => (h x hx).1, Nat.succ_le_succ (depthAll_le fun x hx => (h x hx).2.1), by
    show (tupleText (PyData.shownAll (D.pyL xs))).length ≤ _
    omega⟩
theorem D.ok.mono {n m B C : Nat} {d : D} (h : D.ok n B d) (hn : n ≤ m) (hb : B ≤ C) : D.ok m C d := ⟨h.1, Nat.le_trans h.2.1 hn, Nat.le_trans h.2.2 hb⟩
/-- the pairs of enumerate -/
def enumD (xs : List D) : List D := (List.range xs.length).zipWith (fun (i : Nat) x => D.tup [.int (i : Int), x]) xs
theorem enumD_len (xs : List D) : (enumD xs).length = xs.length := by
  unfold enumD
  rw [List.length_zipWith, List.length_range, Nat.min_self]
theorem enumD_get {xs : List D} {i : Nat} {d : D} (h : (enumD xs)[i]? = some d) : ∃ x, xs[i]? = some x ∧ d = .tup [.int (i : Int), x] := by
  have hi : i < xs.length := by
    have := (List.getElem?_eq_some_iff.mp h).1
    rw [enumD_len] at this
    exact this
  unfold enumD at h
  rw [List.getElem?_zipWith, List.getElem?_range hi, List.getElem?_eq_getElem hi] at h
  exact ⟨xs[i], List.getElem?_eq_getElem hi, (Option.some.inj h).symm⟩
def wk_enum (K : PySem.W.Frag) (a : Addr) (xs : List D) : Wk K (Ite K a) (enumD xs) where
  G := fun N H => ∃ vs, LAt K N H a vs ∧ RepL K N H xs vs
  mono := fun N H H' e ⟨vs, h1, h2⟩ => ⟨vs, h1.mono e, h2.mono e⟩
  gen := fun N N' H e ⟨vs, h1, h2⟩ => ⟨vs, h1.gen e, h2.gen e⟩
  go := fun N H i ⟨vs, h1, h2⟩ hi => by
    rw [enumD_len] at hi
    exact ⟨vs, vs[i]'(by rw [← h2.length]; exact hi), h1.sq, List.getElem?_eq_getElem _⟩
  yld := fun N H i x H' d hN ⟨vs, h1, h2⟩ y hd => by
    obtain ⟨T, v, rfl, nT, rfl, y⟩ := y
    obtain ⟨e, q1, rfl⟩ := enumD_get hd
    obtain ⟨w, q2, q3⟩ := h2.get q1
    have := y vs h1.sq
    rw [q2] at this
    cases this
    refine ⟨sm_new nT, T, _, rfl, .inl ⟨fun z => hN T z nT, .inl upd_same⟩, .cons rfl (.one (q3.mono (sm_0 (sm_new nT))))⟩
  stop := fun N H i ⟨vs, h1, h2⟩ hi => by
    rw [enumD_len] at hi
    exact ⟨vs, h1.sq, by rw [← h2.length]; exact hi⟩
section
variable {M : Md} {O : List Addr} {r : List Sl} {k : List D → Prop} {ta : TA}
theorem di_enum (h : DA M ta O r fun ds => ∃ xs, ds = [.lst xs] ∧ k (enumD xs)) : DI M (iEnum M.K ta) O r k := fun σ H Q R z => h σ H _ R fun vs H1 ds R1 e1 p1 q => by
  obtain ⟨xs, rfl, q⟩ := q
  obtain ⟨v, t, rfl, ⟨a, ws, rfl, h1, h2⟩, p3⟩ := p1
  obtain rfl : t = [] := p3
  exact ⟨a, ws, rfl, h1.sq, z _ H1 _ (wk_enum M.K a xs) R1 e1 ⟨ws, h1, h2⟩ q⟩
end
end Dw

/-! Dw8: texts as lists of signs; an own list popped at a place, two lists of one's own at once. -/
namespace Dw
open PySem PySem.Spec PyProof.Rows L2
/-- the text of these signs -/
def tx (l : List Nat) : Str := ⟨l.toArray⟩
theorem tx_len (l : List Nat) : (tx l).length = l.length := by
  show l.toArray.size = _
  exact List.size_toArray
theorem tx_add (a b : List Nat) : tx a ++ tx b = tx (a ++ b) := by
  show Str.append ⟨a.toArray⟩ ⟨b.toArray⟩ = _
  unfold Str.append tx
  simp
theorem tx_inj {a b : List Nat} (h : tx a = tx b) : a = b := by
  have := congrArg (fun s : Str => s.cps.toList) h
  simpa [tx] using this
theorem tx_of (s : Str) : ∃ l, s = tx l := ⟨s.cps.toList, by cases s; simp [tx]⟩
theorem sIx_at (n d : Nat) {v : Int} (h : 0 ≤ v) : HT.sIx n d (some v) = min v.toNat n := by
  show (if v < 0 then (v + (n : Int)).toNat else min v.toNat n) = _
  rw [if_neg (by omega)]
def cutN (l : List Nat) (lo hi : Option Int) : List Nat := (l.drop (HT.sIx l.length 0 lo)).take (HT.sIx l.length l.length hi - HT.sIx l.length 0 lo)
theorem cutS_tx (l : List Nat) (lo hi : Option Int) : cutS (tx l) lo hi = tx (cutN l lo hi) := by
  unfold cutS cutN tx
  simp [Str.length]
theorem cutN_to {l : List Nat} {n : Int} (h : 0 ≤ n) : cutN l none (some n) = l.take n.toNat := by
  unfold cutN
  rw [sIx_at _ _ h]
  show (l.drop 0).take (min n.toNat l.length - 0) = _
  rw [List.drop_zero, Nat.sub_zero]
  by_cases e : n.toNat ≤ l.length
  · rw [Nat.min_eq_left e]
  · rw [Nat.min_eq_right (by omega), List.take_of_length_le (Nat.le_refl _), List.take_of_length_le (by omega)]
theorem cutN_from {l : List Nat} {n : Int} (h : 0 ≤ n) : cutN l (some n) none = l.drop n.toNat := by
  unfold cutN
  rw [sIx_at _ _ h]
  show (l.drop (min n.toNat l.length)).take (l.length - min n.toNat l.length) = _
  by_cases e : n.toNat ≤ l.length
  · rw [Nat.min_eq_left e, List.take_of_length_le (by rw [List.length_drop]; omega)]
  · rw [Nat.min_eq_right (by omega), List.drop_length, List.drop_of_length_le (by omega), List.take_nil]
section
variable {M : Md} {O : List Addr} {r : List Sl} {σ : L2.St} {H : Hp} {k : D → Prop} {te ta tb : TE} {E : Kn}
def rAddS : R2 := fun x y H Q => ∃ i j, x = .str i ∧ y = .str j ∧ i.length + j.length ≤ sizeLine ∧ Q (.str (i ++ j)) H
theorem de_addS (h : De M ta O r fun x => De M tb O r fun y => ∃ a b, x = .str (tx a) ∧ y = .str (tx b) ∧ a.length + b.length ≤ sizeLine ∧ k (.str (tx (a ++ b)))) : De M (tOp rAddS ta tb) O r k := de_op2 h fun x y c σ H v u Q R pv pu z => by
  obtain ⟨a, b, rfl, rfl, hl, q⟩ := c
  obtain rfl : v = .str (tx a) := pv
  obtain rfl : u = .str (tx b) := pu
  refine ⟨_, _, rfl, rfl, by rw [tx_len, tx_len]; exact hl, ?_⟩
  rw [tx_add]
  exact z _ H (.str (tx (a ++ b))) R .refl rfl q
theorem de_ixS (h : De M ta O r fun x => De M tb O r fun y => ∃ l i c, x = .str (tx l) ∧ y = .int i ∧ l.length ≤ sizeLine ∧ atI l i = some c ∧ k (.str (tx [c]))) : De M (tOp rIxS ta tb) O r k := de_op2 h fun x y c σ H v u Q R pv pu z => by
  obtain ⟨l, i, c, rfl, rfl, hl, e, q⟩ := c
  obtain rfl : v = .str (tx l) := pv
  obtain rfl : u = .int i := pu
  exact ⟨_, i, c, rfl, rfl, by rw [tx_len]; exact hl, by simpa [tx] using e, z _ H (.str (tx [c])) R .refl rfl q⟩
theorem de_slS {lo hi : TO} (h : De M te O r fun x => ∃ l, x = .str (tx l) ∧ l.length ≤ sizeLine ∧ DO M lo O r fun i => DO M hi O r fun j => k (.str (tx (cutN l i j)))) : De M (tSl rSlS te lo hi) O r k := fun σ H Q R z => h σ H _ R fun v H1 x R1 e1 p1 q => by
  obtain ⟨l, rfl, hl, q⟩ := q
  refine q σ H1 _ R1 fun i H2 R2 e2 q2 => q2 σ H2 _ R2 fun j H3 R3 e3 q3 => ?_
  obtain rfl : v = .str (tx l) := p1
  refine ⟨_, rfl, by rw [tx_len]; exact hl, ?_⟩
  rw [cutS_tx]
  exact z _ H3 (.str (tx (cutN l i j))) R3 ((e1.trans e2).trans e3) rfl q3
/-- a sign or nothing: text * 0, text * 1 -/
def rMulS : R2 := fun x y H Q => ∃ (z : Str) (b : Bool), x = .str z ∧ y = .int (if b then 1 else 0) ∧ Q (.str (if b then z else Str.empty)) H
theorem op_mulS {X : Cx} : OpR X (binaryOp .Mult) rMulS := by
  intro pins s σ H x y v u Q I rx ry h
  obtain ⟨z, b, rfl, rfl, q⟩ := h
  obtain ⟨t, rfl⟩ := rx
  cases b with
  | false =>
    obtain ⟨t', rfl⟩ := ry
    exact PySem.P.mul_str_none (by decide) (by decide) ⟨.str Str.empty, H, I.tok _, ⟨_, rfl⟩, q⟩
  | true =>
    obtain ⟨t', rfl⟩ := ry
    refine PySem.P.mul_str (by decide) (fun _ h => ?_) (fun _ h => ?_) ?_
    · exact absurd h (by rw [show ((if true = true then (1 : Int) else 0) == 1) = true from rfl, Bool.true_or]; decide)
    · exact absurd h (by rw [show ((if true = true then (1 : Int) else 0) == 1) = true from rfl, Bool.true_or]; decide)
    · rw [if_neg (by decide), if_pos (by rw [show ((if true = true then (1 : Int) else 0) == 1) = true from rfl, Bool.true_or])]
      exact ⟨.str z, H, I, ⟨_, rfl⟩, q⟩
theorem de_mulS (h : De M ta O r fun x => De M tb O r fun y => ∃ (l : List Nat) (b : Bool), x = .str (tx l) ∧ y = .int (if b then 1 else 0) ∧ k (.str (tx (if b then l else [])))) : De M (tOp rMulS ta tb) O r k := de_op2 h fun x y c σ H v u Q R pv pu z => by
  obtain ⟨l, b, rfl, rfl, q⟩ := c
  obtain rfl : v = .str (tx l) := pv
  obtain rfl : u = .int (if b then 1 else 0) := pu
  refine ⟨_, b, rfl, rfl, ?_⟩
  have e : (if b then tx l else Str.empty) = tx (if b then l else []) := by cases b <;> rfl
  rw [e]
  exact z _ H (.str _) R .refl rfl q
/-- int of a truth value -/
theorem de_int1 (h : De M te O r fun x => ∃ b : Bool, x = .bl b ∧ k (.int (if b then 1 else 0))) : De M (tCB (fun xs H Q => (∃ i, xs = [.int i] ∧ Q (.int i) H) ∨ ∃ k : Bool, xs = [.bl k] ∧ Q (.int (if k then 1 else 0)) H) (tCons te tNil)) O r k := fun σ H Q R z => h σ H _ R fun v H1 x R1 e1 p1 q => by
  obtain ⟨b, rfl, q⟩ := q
  obtain rfl : v = .bl b := p1
  exact .inr ⟨b, rfl, z _ H1 (.int _) R1 e1 rfl q⟩
def rJoin (K : PySem.W.Frag) : V → List V → Hp → VK → Prop := fun x xs H Q => ∃ a p, ∃ ys : List Str, x = .str a ∧ xs = [.ref p] ∧ (SqL K H p (ys.map V.str) ∨ SqT K H p (ys.map V.str)) ∧
    (ys.map (·.length)).sum + ys.length * a.length ≤ 16777216 ∧ Q (.str (Txt.join a ys)) H
theorem tl_empty_join : ∀ ls : List (List Nat), TL.joinL [] ls = ls.flatten
  | [] => rfl
  | [p] => by simp [TL.joinL]
  | p :: q :: r => by
    show p ++ ([] ++ TL.joinL [] (q :: r)) = _
    rw [tl_empty_join (q :: r)]
    simp
theorem repL_strs_of {K : PySem.W.Frag} {N : No} {H : Hp} : ∀ {ss : List Str} {vs : List V}, RepL K N H (ss.map D.str) vs → vs = ss.map V.str
  | [], vs, h => h
  | s :: ss, vs, h => by
    obtain ⟨v, t, rfl, h1, h2⟩ := h
    obtain rfl : v = .str s := h1
    rw [repL_strs_of h2]
    rfl
theorem strs_repL {K : PySem.W.Frag} {N : No} {H : Hp} : ∀ ss : List Str, RepL K N H (ss.map D.str) (ss.map V.str)
  | [] => rfl
  | s :: ss => .cons rfl (strs_repL ss)
/-- "".join(texts) -/
theorem de_join0 (h : De M te O r fun y => ∃ ls : List (List Nat), y = .lst (ls.map fun l => D.str (tx l)) ∧ (ls.map List.length).sum ≤ 1000 ∧ k (.str (tx ls.flatten))) : De M (tM1 (rJoin M.K) (tC (.str "")) te) O r k := fun σ H Q R z => by
  refine ⟨⟨_, rfl⟩, h σ H _ R fun v H1 x R1 e1 p1 q => ?_⟩
  obtain ⟨ls, rfl, hl, q⟩ := q
  obtain ⟨a, vs, rfl, h1, h2⟩ := p1
  have e : (ls.map fun l => D.str (tx l)) = (ls.map tx).map D.str := by rw [List.map_map]; rfl
  rw [e] at h2
  have ev := repL_strs_of h2
  subst ev
  refine ⟨_, a, ls.map tx, rfl, rfl, .inl h1.sq, ?_, ?_⟩
  · rw [List.map_map]
    have e2 : (List.length : List Nat → Nat) = Str.length ∘ tx := funext fun l => (tx_len l).symm
    rw [← e2]
    show (ls.map List.length).sum + (ls.map tx).length * 0 ≤ _
    omega
  · have e3 : Txt.join "" (ls.map tx) = tx ls.flatten := by
      rw [TL.join_eq]
      obtain ⟨l, el⟩ := tx_of (Str.join "" (ls.map tx))
      have e4 := TL.tl_join "" (ls.map tx)
      rw [List.map_map] at e4
      have e5 : TL.tl ∘ tx = id := funext fun l => rfl
      rw [e5, List.map_id] at e4
      have e6 : TL.joinL (TL.tl "") ls = ls.flatten := tl_empty_join ls
      rw [e6, el] at e4
      have e7 : TL.tl (tx l) = l := rfl
      rw [e7] at e4
      rw [el, e4]
    rw [e3]
    exact z _ H1 (.str _) R1 e1 rfl q
/-- name in (texts) -/
theorem in_strs (s : Str) : ∀ ss : List Str, inV (.str s) (ss.map V.str) = decide (s ∈ ss)
  | [] => by simp [inV]
  | a :: ss => by
    have ih := in_strs s ss
    unfold inV at ih ⊢
    rw [List.map_cons, List.any_cons, ih]
    show ((a == s) || decide (s ∈ ss)) = _
    by_cases e : s = a
    · subst e
      simp
    · have e2 : (a == s) = false := beq_eq_false_iff_ne.mpr fun z => e z.symm
      simp [e, e2]
theorem all_flat (ss : List Str) : (ss.map V.str).all flatV = true := by
  rw [List.all_eq_true]
  intro x hx
  obtain ⟨s, _, rfl⟩ := List.mem_map.mp hx
  rfl
theorem de_inS (h : De M ta O r fun x => De M tb O r fun y => ∃ (s : Str) (ss : List Str), x = .str s ∧ (y = .lst (ss.map D.str) ∨ y = .tup (ss.map D.str)) ∧ k (.bl (decide (s ∈ ss)))) : De M (tOp (rIn M.K false) ta tb) O r k := de_op2 h fun x y c σ H v u Q R pv pu z => by
  obtain ⟨s, ss, rfl, hy, q⟩ := c
  obtain rfl : v = .str s := pv
  rcases hy with rfl | rfl
  · obtain ⟨a, vs, rfl, h1, h2⟩ := pu
    have ev := repL_strs_of h2
    subst ev
    refine ⟨a, _, rfl, .inl h1.sq, rfl, all_flat ss, ?_⟩
    rw [if_neg Bool.false_ne_true, in_strs]
    exact z _ H (.bl _) R .refl rfl q
  · obtain ⟨a, vs, rfl, h1, h2⟩ := pu
    have ev := repL_strs_of h2
    subst ev
    refine ⟨a, _, rfl, .inr h1.sq, rfl, all_flat ss, ?_⟩
    rw [if_neg Bool.false_ne_true, in_strs]
    exact z _ H (.bl _) R .refl rfl q
/-- name = a.split(b): a list of one's own -/
theorem ds_ownSplit {i : Nat} {a b : Str} (hb : (b.length == 0) = false) (ha : a.length + 2 ≤ sizeLine) (hl : (Txt.split a b).length ≤ sizeLine) (q : ∀ p, p ∉ O → E.nx (p :: O) (r.set i (.mu p ((Txt.split a b).map D.str)))) :
    DS M (tAsg (tM1 (fun x xs H Q => ∃ a b, x = .str a ∧ xs = [.str b] ∧ (b.length == 0) = false ∧ a.length + 2 ≤ sizeLine ∧ rNewStrs (Txt.split a b) H Q) (tC (.str a)) (tC (.str b))) (gName i)) O r E := fun σ H Z R z =>
  ⟨⟨a, rfl⟩, a, b, rfl, rfl, hb, ha, ((ds_own (tl := fun _ H K => K ((Txt.split a b).map V.str) H) (i := i) fun σ H Q R z => z _ H ((Txt.split a b).map D.str) R .refl (strs_repL _) ⟨by rw [List.length_map]; exact hl, q⟩ : DS M _ O r E) σ H Z R z).2⟩
theorem de_splitC {a b : Str} (hb : (b.length == 0) = false) (ha : a.length + 2 ≤ sizeLine) (q : k (.lst ((Txt.split a b).map D.str))) :
    De M (tM1 (fun x xs H Q => ∃ a b, x = .str a ∧ xs = [.str b] ∧ (b.length == 0) = false ∧ a.length + 2 ≤ sizeLine ∧ rNewStrs (Txt.split a b) H Q) (tC (.str a)) (tC (.str b))) O r k := fun σ H Q R z =>
  ⟨⟨a, rfl⟩, a, b, rfl, rfl, hb, ha, fun p hp => z _ _ (.lst _) (R.grow (sm_new hp)) (sm_0 (sm_new hp)) (rep_lst R hp (strs_repL _)) q⟩
/-- an own list taken n times -/
theorem de_repO (i : Nat) {p : Addr} {xs : List D} (hi : r[i]? = some (.mu p xs)) (h : De M te O r fun y => ∃ n : Int, y = .int n ∧ 0 ≤ n ∧ n ≤ 1000 ∧ xs.length * n.toNat ≤ 1000 ∧ k (.lst (List.replicate n.toNat xs).flatten)) : De M (tOp rRep (tVar i) te) O r k := fun σ H Q R z => by
  obtain ⟨e1, hp, vs, h1, h2⟩ := R.slot i _ hi
  refine ⟨.ref p, e1, h σ H _ R fun v H1 x R1 e2 p1 q => ?_⟩
  obtain ⟨n, rfl, n0, n1, hz, q⟩ := q
  obtain rfl : v = .int n := p1
  obtain ⟨_, _, vs', h1', h2'⟩ := R1.slot i _ hi
  have hrep : ∀ m : Nat, RepL M.K (nf M O) H1 (List.replicate m xs).flatten (List.replicate m vs').flatten := fun m => by
    induction m with
    | zero => exact .nil
    | succ m ih =>
      rw [List.replicate_succ, List.replicate_succ, List.flatten_cons, List.flatten_cons]
      exact h2'.append ih
  refine ⟨p, n, vs', rfl, rfl, h1', by omega, by omega, by rw [← h2'.length]; exact Nat.le_trans hz (by decide), fun a ha => ?_⟩
  exact z _ _ (.lst _) (R1.grow (sm_new ha)) (e2.trans (sm_0 (sm_new ha))) (rep_lst R1 ha (hrep _)) q
end
end Dw

namespace Dw
open PySem PySem.Spec PyProof.Rows L2
/-! the source of draws: a dict with a seed, a number and a list of numbers -/
def dealKv (seed number : Int) (ll : Addr) : List (Key × V) := [(.inr "seed", .int seed), (.inr "number", .int number), (.inr "left", .ref ll)]
def DealAt (g : Addr × Addr) (H : Hp) : Prop := ∃ (seed number : Int) (left : List Int), H g.1 = some (.dK (dealKv seed number g.2)) ∧ H g.2 = some (.lst (left.map V.int)) ∧ 0 ≤ seed ∧ seed < 2147483647 ∧ 0 ≤ number ∧ ∀ x ∈ left, 0 ≤ x
def dealS : Sg where
  G := Addr × Addr
  F0 := fun g a => a = g.1 ∨ a = g.2
  I := DealAt
  st := fun g H H' ⟨s, n, l, h1, h2, r⟩ e => ⟨s, n, l, e _ _ (.inl rfl) h1, e _ _ (.inr rfl) h2, r⟩
  tk := fun g H a ⟨s, n, l, h1, h2, r⟩ h => by
    rcases h with rfl | rfl
    · rw [h1]
      exact fun z => nomatch z
    · rw [h2]
      exact fun z => nomatch z
/-- the promise of the def that makes it -/
def spDeal (K : PySem.W.Frag) : Sp := fun vs H Q _ => ∃ (a : Addr) (ns : List Int) (b : Int), vs = [.ref a, .int b] ∧ SqL K H a (ns.map V.int) ∧ ns.length ≤ 63 ∧ 0 ≤ b ∧ b ≤ 63 ∧
  ∀ (g : Addr × Addr) (H' : Hp), H g.1 = none → H g.2 = none → Same H H' → DealAt g H' → Q (.ref g.1) H'
/-- a draw below n -/
def preDraw (g : Addr × Addr) (ds : List D) : Prop := ∃ n : Int, ds = [.ref g.1, .int n] ∧ 0 < n ∧ n < 1073741824
def postDraw (_ : Addr × Addr) (ds : List D) (d : D) : Prop := ∃ n m : Int, ds[1]? = some (.int n) ∧ d = .int m ∧ 0 ≤ m ∧ m < n
abbrev spDraw (K : PySem.W.Frag) : Sp := SpD K dealS preDraw postDraw
theorem lat_of {K : PySem.W.Frag} {H : Hp} {a : Addr} {vs : List V} (h : SqL K H a vs) : LAt K (fun _ => False) H a vs := h.imp (fun z => ⟨fun q => q, z⟩) fun z => .inr z
theorem same_sm {H H' : Hp} (e : Sm (fun _ => False) H H') : Same H H' := fun a o h => e a o (fun z => z) h
theorem valV_seed {s n : Int} {l : Addr} : valV (dealKv s n l) (.inr "seed") = some (.int s) := rfl
theorem valV_number {s n : Int} {l : Addr} : valV (dealKv s n l) (.inr "number") = some (.int n) := rfl
theorem valV_left {s n : Int} {l : Addr} : valV (dealKv s n l) (.inr "left") = some (.ref l) := rfl
theorem putK_seed {s n x : Int} {l : Addr} : putK (dealKv s n l) (.inr "seed") (.int x) = dealKv x n l := rfl
theorem putK_number {s n x : Int} {l : Addr} : putK (dealKv s n l) (.inr "number") (.int x) = dealKv s x l := rfl
end Dw

/-! DwDraw: a draw by a number that is written, within a def that has the source as its own; tuple of a list. -/
namespace Dw
open PySem PySem.Spec PyProof.Rows L2
section
variable {M : Md} {O : List Addr} {r : List Sl} {k : D → Prop} {te : TE}
theorem de_draw {g : Addr × Addr} {i : Nat} {n : Int} {E : XK} (h0 : M.F0 = dealS.F0 g) (hI : M.I = dealS.I g) (hr : r[i]? = some (.d (.ref g.1))) (n0 : 0 < n) (n1 : n < 1073741824) (h : ∀ m : Int, 0 ≤ m → m < n → k (.int m)) :
    De M (tCall (spDraw M.K) [] E (tCons (tVar i) (tCons (tC (.int n)) tNil))) O r k :=
  de_call g h0 hI (da_cons (de_var hr (da_cons (de_int (da_nil ⟨⟨n, rfl, n0, n1⟩, fun d ⟨a, m, ea, ed, m0, m1⟩ => by
    cases ea
    subst ed
    exact h m m0 m1⟩)))))
theorem de_thenTup (h : De M te O r fun x => ∃ xs, x = .lst xs ∧ k (.tup xs)) : De M (tThen te (kTup M.K)) O r k := fun σ H Q R z => h σ H _ R fun v H1 x R1 e1 p1 q => by
  obtain ⟨xs, rfl, q⟩ := q
  obtain ⟨a, vs, rfl, h1, h2⟩ := p1
  exact .inl ⟨a, vs, rfl, h1.sq, fun p hp => z _ _ (.tup xs) (R1.grow (sm_new hp)) (e1.trans (sm_0 (sm_new hp))) (rep_tup R1 hp h2) q⟩
/-- an if without an else, told once -/
theorem ds_ifN {tt : TT} {ts : TS} {E : Kn} (h : DT M tt O r fun b => b = true → DS M ts O r E) (n : E.nx O r) : DS M (tIfS tt ts tNext) O r E := ds_if (h.imp fun b hb => by
  cases b with
  | true => exact hb rfl
  | false => exact ds_next n)
theorem dt_andN {tt tu : TT} {C : Prop} (h : DT M tt O r fun b => b = true → DT M tu O r fun b => b = true → C) : DT M (tAnd tt tu) O r fun b => b = true → C := dt_and (h.imp fun b hb => by
  cases b with
  | true => exact hb rfl
  | false => exact fun z => nomatch z)
end
end Dw

/-! Dw9: two lists of one's own at once; one popped at a place, its item put on the other. -/
namespace Dw
open PySem PySem.Spec PyProof.Rows L2
section
variable {M : Md} {O : List Addr} {r : List Sl} {σ : L2.St} {H : Hp} {k : D → Prop} {te ta tb : TE} {E : Kn}
abbrev tListOf (K : PySem.W.Frag) (te : TE) : TE := tCB (fun xs H Q => ∃ p ys, xs = [.ref p] ∧ (SqL K H p ys ∨ SqT K H p ys) ∧ ∀ l, H l = none → Q (.ref l) (upd H l (.lst ys))) (tCons te tNil)
/-- a, b = list(x), [] -/
theorem ds_parOwn {i j : Nat} (hij : i ≠ j) (hi : i < r.length) (hj : j < r.length) (h : De M te O r fun x => ∃ xs, (x = .lst xs ∨ x = .tup xs) ∧ ∀ p q, p ∉ O → q ∉ O → p ≠ q → E.nx (q :: p :: O) ((r.set i (.mu p xs)).set j (.mu q []))) :
    DS M (tPar i j (tCons (tListOf M.K te) (tCons (tLst tNil) tNil))) O r E := fun σ H Z R z => h σ H _ R fun v H1 x R1 e1 p1 q => by
  obtain ⟨xs, hx, q⟩ := q
  have seq : ∃ a vs, v = .ref a ∧ (SqL M.K H1 a vs ∨ SqT M.K H1 a vs) ∧ RepL M.K (nf M O) H1 xs vs := by
    rcases hx with rfl | rfl
    · obtain ⟨a, vs, rfl, h1, h2⟩ := p1
      exact ⟨a, vs, rfl, .inl h1.sq, h2⟩
    · obtain ⟨a, vs, rfl, h1, h2⟩ := p1
      exact ⟨a, vs, rfl, .inr h1.sq, h2⟩
  obtain ⟨a, vs, rfl, h1, h2⟩ := seq
  refine ⟨a, vs, rfl, h1, fun p hp => ⟨Nat.zero_le _, fun s hs => ⟨.ref p, .ref s, rfl, ?_⟩⟩⟩
  have np : p ≠ s := fun z => by
    rw [z, upd_same] at hs
    cases hs
  have hs1 : H1 s = none := by
    rw [upd_ne np.symm] at hs
    exact hs
  have pO : p ∉ O := fun z => (R1.own p z).2 hp
  have sO : s ∉ O := fun z => (R1.own s z).2 hs1
  have noMu : ∀ (l : Nat) (ys : List D), r[l]? = some (.mu p ys) → False := fun l ys hy => pO (R1.slot l _ hy).2.1
  have noMs : ∀ (l : Nat) (ys : List D), r[l]? = some (.mu s ys) → False := fun l ys hy => sO (R1.slot l _ hy).2.1
  have Ra : Rp M (p :: O) (r.set i (.mu p xs)) (σ.set i (some (.ref p))) (upd H1 p (.lst vs)) := (R1.own1 hp).set (i := i) (v := .ref p) (s := .mu p xs) ⟨rfl, List.mem_cons_self, vs, upd_same, h2.own1 hp⟩ fun l xs e j ys hj hy => by
    cases e
    exact (noMu _ _ hy).elim
  have Rb : Rp M (s :: p :: O) ((r.set i (.mu p xs)).set j (.mu s [])) ((σ.set i (some (.ref p))).set j (some (.ref s))) (upd (upd H1 p (.lst vs)) s (.lst [])) := (Ra.own1 hs).set (i := j) (v := .ref s) (s := .mu s []) ⟨rfl, List.mem_cons_self, [], upd_same, .nil⟩ fun l xs e m ys hm hy => by
    cases e
    by_cases em : i = m
    · subst em
      rw [List.getElem?_set_self hi] at hy
      cases hy
      exact np rfl
    · rw [List.getElem?_set_ne em] at hy
      exact noMs _ _ hy
  have s1 : Stp M O H (p :: O) (upd H1 p (.lst vs)) := stp_new R1 e1 hp
  have s2 : Stp M (p :: O) (upd H1 p (.lst vs)) (s :: p :: O) (upd (upd H1 p (.lst vs)) s (.lst [])) := stp_new (R1.own1 hp) .refl hs
  exact z.nx _ _ _ _ Rb (Stp.trans Ra.inv s1 s2) (q p s pO sO np)
/-- b.append(a.pop(n)) -/
theorem ds_appendPop {i j : Nat} {p q : Addr} {xs ys : List D} (hi : r[i]? = some (.mu p xs)) (hj : r[j]? = some (.mu q ys)) (hij : i ≠ j) (hz : ys.length < sizeLine)
    (h : De M te O r fun d => ∃ n : Nat, d = .int n ∧ n < xs.length ∧ xs.length ≤ 1000000 ∧ ∀ x, xs[n]? = some x → E.nx O ((r.set i (.mu p (xs.eraseIdx n))).set j (.mu q (ys ++ [x])))) :
    DS M (tDrop (tBM M.K "list" rAppend (tVar j) (tCons (tBM M.K "list" rPopAt (tVar i) (tCons te tNil)) tNil))) O r E := fun σ H Z R z => by
  obtain ⟨e1, hp, vs, h1, h2⟩ := R.slot i _ hi
  obtain ⟨f1, hq, ws, g1, g2⟩ := R.slot j _ hj
  refine ⟨.ref q, f1, .inl ⟨rfl, ws, .inl (.inl g1)⟩, ?_⟩
  refine ⟨.ref p, e1, .inl ⟨rfl, vs, .inl (.inl h1)⟩, ?_⟩
  refine h σ H _ R fun v H1 d R1 e2 p1 q1 => ?_
  obtain ⟨n, rfl, hn, hz2, q1⟩ := q1
  obtain rfl : v = .int (n : Int) := p1
  obtain ⟨_, _, vs', h1', h2'⟩ := R1.slot i _ hi
  obtain ⟨_, _, ws', g1', g2'⟩ := R1.slot j _ hj
  obtain ⟨y, y1, y2⟩ := h2'.get (List.getElem?_eq_getElem hn)
  have hl : xs.length = vs'.length := h2'.length
  have npq : q ≠ p := fun e => by
    subst e
    exact hij (R1.one i j q xs ys hi hj)
  refine ⟨p, vs', n, n, y, rfl, rfl, h1', by omega, by omega, ?_, y1, ?_⟩
  · unfold seqIndex?
    rw [← hl]
    simp
    omega
  have R2 := R1.write hi (h2'.erase n)
  have hj2 : (r.set i (.mu p (xs.eraseIdx n)))[j]? = some (.mu q ys) := by rw [List.getElem?_set_ne hij]; exact hj
  obtain ⟨_, _, ws2, g3, g4⟩ := R2.slot j _ hj2
  refine ⟨q, ws2, y, rfl, rfl, g3, by rw [← g4.length]; exact hz, ?_⟩
  have sm : Sm (nf M O) H1 (upd H1 p (.lst (vs'.eraseIdx n))) := fun a o na e => by
    rw [upd_ne fun z => na (.inr (by rw [z]; exact hp))]
    exact e
  have R3 := R2.write hj2 (g4.append (.one (y2.mono sm)))
  have s1 : Stp M O H O (upd H1 p (.lst (vs'.eraseIdx n))) := stp_write R1 hi e2
  have s2 : Stp M O (upd H1 p (.lst (vs'.eraseIdx n))) O (upd (upd H1 p (.lst (vs'.eraseIdx n))) q (.lst (ws2 ++ [y]))) := stp_write R2 hj2 .refl
  exact z.nx O _ σ _ R3 (Stp.trans R2.inv s1 s2) (q1 _ (List.getElem?_eq_getElem hn))
end
end Dw

/-! H02: where the defs of this row stand. -/
namespace Dw
open PySem PySem.Spec PyProof.Rows L2
def topW (i : Nat) : Stmt := PySem.Challenge.pw_nestprops_k28_depths_and_reversed_script.main.body.getD i (.Pass ⟨0, 0, 0, 0⟩)
abbrev sMix : Stmt := topW 10
abbrev sAny : Stmt := topW 11
abbrev sWor : Stmt := topW 12
abbrev sDra : Stmt := topW 13
abbrev sLaw : Stmt := topW 14
end Dw

/-! LWa: the items in a drawn order. -/
namespace Dw
open PySem PySem.Spec PyProof.Rows L2
abbrev nMix : List Str := ["_law_deal_here", "_law_items", "_law_left", "_law_found", "_law_turn"]
theorem scMix : FnScope nMix ["_law_deal_here", "_law_items"] (defScope sMix) := ⟨rfl, rfl, rfl, by decide +kernel, rfl, by decide +kernel, by decide +kernel⟩
local macro_rules | `(tactic| walk_at "dw") => `(tactic| first
  | refine de_var rfl ?_ | refine de_int ?_ | refine de_str ?_ | refine de_bl ?_ | refine de_non ?_
  | refine de_intI ?_ | refine de_intB ?_ | refine de_intC ?_ | refine de_eq ?_ | refine de_ne ?_
  | refine da_nil ?_ | refine da_cons ?_ | refine de_max2 ?_ | refine do_none ?_ | refine do_some ?_ | refine dt_test ?_ | refine dt_B ?_ | refine dt_yes ?_
  | refine ⟨_, _, rfl, rfl, ?_⟩ | refine ⟨_, rfl, ?_⟩)
def preMix (g : Addr × Addr) (ds : List D) : Prop := ∃ (x : D) (xs : List D), ds = [.ref g.1, x] ∧ (x = .lst xs ∨ x = .tup xs) ∧ xs.length ≤ 1000
def postMix (_ : Addr × Addr) (ds : List D) (d : D) : Prop := ∃ xs ys : List D, (ds[1]? = some (.lst xs) ∨ ds[1]? = some (.tup xs)) ∧ d = .lst ys ∧ ys.Perm xs
section
variable {P : Program} {w : World} {K : PySem.W.Frag} {mg : Str → Option Value} {base : Heap}
theorem ok_mix {f fD : Addr} {fd fdD : FuncData} {k : Nat} (F : Fun K "_law_mixed" "_law_mixed" sMix f fd) (FD : FnOk P w K mg base CX0 k fD fdD ["_law_deal_here", "_law_many"] (spDraw K)) (gD : mg "_law_draw" = some (.ref fD)) (kD : PySem.W.keepIn K (.ref fD) = true) (bD : Binds K fdD ["_law_deal_here", "_law_many"] [])
    (mL : mg "list" = none) (mN : mg "len" = none) (mR : mg "range" = none) : FnOk P w K mg base CX0 (k + 1) f fd ["_law_deal_here", "_law_items"] (SpD K dealS preMix postMix) := by
  refine fn_dw (S := dealS) F scMix (fun g ds ⟨x, xs, e, _⟩ => by rw [e]; rfl) fun cdv A outer s H E g ds F1 f0 tr hr pre => ?_
  obtain ⟨x, xs, rfl, hx, hl⟩ := pre
  have h0 : (mdOf K dealS g H F1 f0 tr).F0 = dealS.F0 g := rfl
  have hI : (mdOf K dealS g H F1 f0 tr).I = dealS.I g := rfl
  refine ⟨_, pss_cons (ps_par (i := 2) (j := 3) rfl scMix.nd rfl rfl (by decide) rfl rfl (pa_cons (pe_callTy call_list_of (by rfl) mL (by decide +kernel) (pa_cons (pv 1) pa_nil)) (pa_cons (pe_lst pa_nil) pa_nil)) (by rfl))
    (pss_cons (ps_for PassesOwn.never rfl (pi_range1 (by rfl) mR (pa_cons (pe_callB call_len_seq (by rfl) mN PySem.boot_len (pa_cons (pv 2) pa_nil)) pa_nil)) (pg_name (i := 4) scMix.nd rfl (Or.inl rfl))
      (pss_one (ps_expr (pe_bm PySem.F.plainAttrs_list PySem.F.slot_list_append PySem.F.type_list_append mt_append (pv 3)
        (pa_cons (pe_bm PySem.F.plainAttrs_list PySem.F.slot_list_pop PySem.F.type_list_pop mt_popAt (pv 2)
          (pa_cons (pe_call FD hr (by rfl) gD kD bD .nil pass0 (pa_cons (pv 0) (pa_cons (pe_callB call_len_seq (by rfl) mN PySem.boot_len (pa_cons (pv 2) pa_nil)) pa_nil))) pa_nil)) pa_nil)))))
    (pss_one (ps_ret (pv 3)))), ?_⟩
  refine ds_seq (ds_parOwn (by decide) (by show 2 < 5; decide) (by show 3 < 5; decide) (de_var rfl ⟨xs, hx, fun p q hp hq hpq => ?_⟩))
  show DS _ _ _ _ _
  refine ds_seq (ds_for (js := [4]) (di_range1 (da_cons (de_borrow 2 rfl (de_len (de_var rfl ⟨xs, .inl rfl, rfl, da_nil ⟨_, rfl, ⟨by omega, by omega⟩, ?_⟩⟩))))))
  refine ⟨fun i O r => O = [q, p] ∧ ∃ (left found : List D) (s : Sl), left.length + i = xs.length ∧ found.length = i ∧ (found ++ left).Perm xs ∧ r = [.d (.ref g.1), .d x, .mu p left, .mu q found, s],
    ⟨rfl, xs, [], .un, rfl, rfl, .refl _, rfl⟩, fun i y O' r' hy hv => ?_, fun O' r' hv => ?_⟩
  · obtain ⟨rfl, left, found, s', hle, hfo, hp, rfl⟩ := hv
    obtain ⟨hi, rfl⟩ := rangeD_get hy
    refine dg_name (ds_appendPop (i := 2) (j := 3) rfl rfl (by decide) (by rw [hfo]; exact Nat.lt_of_lt_of_le (by omega : i < 1001) (by decide)) (de_call g h0 hI (da_cons (de_var rfl (da_cons (de_borrow 2 rfl (de_len (de_var rfl ⟨left, .inl rfl, rfl, da_nil ?_⟩))))))))
    refine ⟨⟨left.length, rfl, by omega, by omega⟩, fun d ⟨n, m, e, ed, m0, m1⟩ => ?_⟩
    cases e
    subst ed
    refine ⟨m.toNat, by rw [Int.toNat_of_nonneg m0], by omega, by omega, fun z hz => ⟨rfl, left.eraseIdx m.toNat, found ++ [z], _, ?_, ?_, ?_, rfl⟩⟩
    · rw [List.length_eraseIdx_of_lt (by omega)]
      omega
    · rw [List.length_append, hfo]
      rfl
    · have hm : m.toNat < left.length := by omega
      have e1 : left[m.toNat] = z := by
        rw [List.getElem?_eq_getElem hm] at hz
        exact Option.some.inj hz
      have e2 : (left[m.toNat] :: left.eraseIdx m.toNat).Perm left := by
        rw [List.eraseIdx_eq_take_drop_succ]
        refine List.perm_middle.symm.trans ?_
        rw [List.getElem_cons_drop, List.take_append_drop]
      rw [e1] at e2
      rw [List.append_assoc]
      exact ((List.Perm.append_left found e2)).trans hp
  · obtain ⟨rfl, left, found, s', hle, hfo, hp, rfl⟩ := hv
    rw [rangeD_len] at hle hfo
    have e0 : left = [] := List.length_eq_zero_iff.mp (by omega)
    subst e0
    rw [List.append_nil] at hp
    refine ds_freeze 3 rfl (ds_ret (de_var rfl ⟨xs, found, ?_, rfl, hp⟩))
    rcases hx with rfl | rfl
    · exact .inl rfl
    · exact .inr rfl
end
end Dw

/-! LWb: a name of any letters. -/
namespace Dw
open PySem PySem.Spec PyProof.Rows L2
local macro_rules | `(tactic| walk_at "dw") => `(tactic| first
  | refine de_var rfl ?_ | refine de_int ?_ | refine de_str ?_ | refine de_bl ?_ | refine de_non ?_
  | refine de_intI ?_ | refine de_intB ?_ | refine de_intC ?_ | refine de_eq ?_ | refine de_ne ?_
  | refine da_nil ?_ | refine da_cons ?_ | refine de_max2 ?_ | refine do_none ?_ | refine do_some ?_ | refine dt_test ?_ | refine dt_B ?_ | refine dt_yes ?_
  | refine ⟨_, _, rfl, rfl, ?_⟩ | refine ⟨_, rfl, ?_⟩)
def alpha : List Nat := [97, 98, 99, 100, 101, 102, 103, 104, 105, 106, 107, 108, 109, 110, 111, 112, 113, 114, 115, 116, 117, 118, 119, 120, 121, 122]
theorem alpha_is : (("abcdefghijklmnopqrstuvwxyz" : String) : Str) = tx alpha := by decide +kernel
theorem alpha_at {m : Int} (h0 : 0 ≤ m) (h1 : m < 26) : atI alpha m = some (97 + m.toNat) := by
  obtain ⟨n, rfl⟩ := Int.eq_ofNat_of_zero_le h0
  have hn : n < 26 := by omega
  have key : ∀ k, k < 26 → atI alpha ((k : Nat) : Int) = some (97 + k) := by decide +kernel
  exact key n hn
/-- small letters alone -/
def Low (l : List Nat) : Prop := ∀ c ∈ l, 97 ≤ c ∧ c ≤ 122
theorem Low.one {c : Nat} (h : 97 ≤ c ∧ c ≤ 122) : Low [c] := fun x hx => by
  rw [List.mem_singleton.mp hx]
  exact h
theorem Low.app {a b : List Nat} (h : Low a) (g : Low b) : Low (a ++ b) := fun c hc => (List.mem_append.mp hc).elim (h c) (g c)
theorem Low.flat {ls : List (List Nat)} (h : ∀ l ∈ ls, Low l) : Low ls.flatten := fun c hc => by
  obtain ⟨l, hl, hc⟩ := List.mem_flatten.mp hc
  exact h l hl c hc
theorem Low.take {l : List Nat} (n : Nat) (h : Low l) : Low (l.take n) := fun c hc => h c (List.mem_of_mem_take hc)
theorem Low.drop {l : List Nat} (n : Nat) (h : Low l) : Low (l.drop n) := fun c hc => h c (List.mem_of_mem_drop hc)
/-- the words of rules -/
def rsv : List (List Nat) := [[97, 108, 108], [97, 110, 121], [111, 102], [97, 108, 119, 97, 121, 115], [110, 101, 118, 101, 114], [110, 111, 110, 101]]
theorem rsv_is : ([("all" : Str), ("any" : Str), ("of" : Str), ("always" : Str), ("never" : Str), ("none" : Str)] : List Str) = rsv.map tx := by decide +kernel
theorem rsv_mem {w : List Nat} : (tx w ∈ rsv.map tx) ↔ w ∈ rsv := ⟨fun h => by
  obtain ⟨v, hv, e⟩ := List.mem_map.mp h
  rw [← tx_inj e]
  exact hv, fun h => List.mem_map.mpr ⟨w, h, rfl⟩⟩
abbrev nAny : List Str := ["_law_deal_here", "_law_last", "_law_letters", "_law_word", "_law_sign"]
theorem scAny : FnScope nAny ["_law_deal_here", "_law_last"] (defScope sAny) := ⟨rfl, rfl, rfl, by decide +kernel, rfl, by decide +kernel, by decide +kernel⟩
def preAny (g : Addr × Addr) (ds : List D) : Prop := ∃ c : Nat, ds = [.ref g.1, .str (tx [c])] ∧ 97 ≤ c ∧ c ≤ 122
def postAny (_ : Addr × Addr) (ds : List D) (d : D) : Prop := ∃ (c : Nat) (u : List Nat), ds[1]? = some (.str (tx [c])) ∧ d = .str (tx (u ++ [c])) ∧ Low (u ++ [c]) ∧ u.length ≤ 5 ∧ u ++ [c] ∉ rsv
/-- letters drawn, m of them -/
theorem pieces_len {ls : List (List Nat)} (h : ∀ l ∈ ls, l.length = 1) : ls.flatten.length = ls.length ∧ (ls.map List.length).sum = ls.length := by
  induction ls with
  | nil => exact ⟨rfl, rfl⟩
  | cons l ls ih =>
    obtain ⟨h1, h2⟩ := ih fun x hx => h x (by simp [hx])
    have e := h l (by simp)
    constructor
    · rw [List.flatten_cons, List.length_append, h1, e, List.length_cons]
      omega
    · rw [List.map_cons, List.sum_cons, h2, e, List.length_cons]
      omega
theorem strs_of {ys : List D} (h : ∀ (i : Nat) y, ys[i]? = some y → ∃ l : List Nat, y = .str (tx l) ∧ l.length = 1 ∧ Low l) : ∃ ls : List (List Nat), ys = ls.map (fun l => D.str (tx l)) ∧ (∀ l ∈ ls, l.length = 1 ∧ Low l) := by
  induction ys with
  | nil => exact ⟨[], rfl, fun l h => nomatch h⟩
  | cons y ys ih =>
    obtain ⟨l, rfl, h1, h2⟩ := h 0 y rfl
    obtain ⟨ls, rfl, h3⟩ := ih fun i z hz => h (i + 1) z hz
    exact ⟨l :: ls, rfl, fun x hx => (List.mem_cons.mp hx).elim (fun e => by rw [e]; exact ⟨h1, h2⟩) (h3 x)⟩
section
variable {P : Program} {w : World} {K : PySem.W.Frag} {mg : Str → Option Value} {base : Heap}
/-- "".join([letters[draw(26)] for .. in range(draw(n))]) -/
theorem de_letters {M : Md} {O : List Addr} {r : List Sl} {q : D → Prop} {g : Addr × Addr} {i a s : Nat} {n : Int} {E1 E2 : XK} (h0 : M.F0 = dealS.F0 g) (hI : M.I = dealS.I g) (n0 : 0 < n) (n1 : n ≤ 100) (hr : r[i]? = some (.d (.ref g.1)))
    (w1 : ∀ x, ((wipeR r [s]).set s (.d x))[i]? = some (.d (.ref g.1))) (w2 : ∀ x, ((wipeR r [s]).set s (.d x))[a]? = some (.d (.str (tx alpha)))) (h : ∀ u : List Nat, (u.length : Int) < n → Low u → q (.str (tx u))) :
    De M (tM1 (rJoin M.K) (tC (.str "")) (tLc (iRng1 (tCons (tCall (spDraw M.K) [] E1 (tCons (tVar i) (tCons (tC (.int n)) tNil))) tNil)) (gName s) tYes (tOp rIxS (tVar a) (tCall (spDraw M.K) [] E2 (tCons (tVar i) (tCons (tC (.int 26)) tNil)))) [s])) O r q := by
  refine de_join0 (de_lcP (js := [s]) (fun _ _ y => ∃ l : List Nat, y = .str (tx l) ∧ l.length = 1 ∧ Low l) (fun j h => h) (di_range1 (da_cons (de_draw h0 hI hr n0 (by omega) fun m m0 m1 => da_nil ⟨m, rfl, ⟨by omega, by omega⟩, ?_⟩))))
  refine ⟨by rw [rangeD_len]; exact Nat.lt_of_lt_of_le (by omega : m.toNat < 1000) (by decide), fun O' j x hx => dg_name ?_, fun ys hl hc => ?_⟩
  · refine de_ixS (de_var (w2 x) (de_draw h0 hI (w1 x) (by decide) (by decide) fun v v0 v1 => ⟨alpha, v, _, rfl, rfl, by decide, alpha_at v0 v1, _, rfl, rfl, Low.one ⟨by omega, by omega⟩⟩))
  · rw [rangeD_len] at hl
    obtain ⟨ls, rfl, h1⟩ := strs_of fun j y hy => by
      obtain ⟨z, ez⟩ : ∃ z, (rangeD 0 m.toNat)[j]? = some z := ⟨_, List.getElem?_eq_getElem (by rw [rangeD_len, ← hl]; exact (List.getElem?_eq_some_iff.mp hy).1)⟩
      exact hc j z y ez hy
    rw [List.length_map] at hl
    obtain ⟨p1, p2⟩ := pieces_len fun l hl => (h1 l hl).1
    exact ⟨ls, rfl, by omega, h _ (by omega) (Low.flat fun l hl => (h1 l hl).2)⟩
theorem not_b : ∀ w ∈ rsv, w.head? ≠ some 98 ∧ 2 ≤ w.length := by decide +kernel
theorem ok_any {f fD : Addr} {fd fdD : FuncData} {k : Nat} (F : Fun K "_law_any_word" "_law_any_word" sAny f fd) (FD : FnOk P w K mg base CX0 k fD fdD ["_law_deal_here", "_law_many"] (spDraw K)) (gD : mg "_law_draw" = some (.ref fD)) (kD : PySem.W.keepIn K (.ref fD) = true) (bD : Binds K fdD ["_law_deal_here", "_law_many"] [])
    (mR : mg "range" = none) : FnOk P w K mg base CX0 (k + 1) f fd ["_law_deal_here", "_law_last"] (SpD K dealS preAny postAny) := by
  refine fn_dw (S := dealS) F scAny (fun g ds ⟨c, e, _⟩ => by rw [e]; rfl) fun cdv A outer s H E g ds F1 f0 tr hr pre => ?_
  obtain ⟨c, rfl, c0, c1⟩ := pre
  have h0 : (mdOf K dealS g H F1 f0 tr).F0 = dealS.F0 g := rfl
  have hI : (mdOf K dealS g H F1 f0 tr).I = dealS.I g := rfl
  refine ⟨_, pss_cons (ps_set (i := 2) scAny.nd rfl (Or.inr rfl) pe_str)
    (pss_cons (ps_set (i := 3) scAny.nd rfl (Or.inl rfl) (pe_op op_add_str (pe_join pe_str (pe_lc (own := [("_law_sign", 4)]) (g := gName 4) (tt := tYes) (by rfl) scAny.nd (pi_range1 (by rfl) mR (pa_cons (pe_call FD hr (by rfl) gD kD bD .nil pass0 (pa_cons (pv 0) (pa_cons pe_int pa_nil))) pa_nil))
        (blkOk_by (N := nAny) (sc := defScope sAny) (by decide +kernel)) (fun _ _ _ _ _ => pg_name (i := 4) scAny.nd rfl (Or.inl rfl)) (fun _ _ _ _ _ => pts_nil)
        (fun _ _ _ _ _ => pe_ix ix_str (pv 2) (pe_call FD hr (by rfl) gD kD bD .nil pass0 (pa_cons (pv 0) (pa_cons pe_int pa_nil))) (fun _ _ => rfl)))) (pv 1)))
    (pss_one (ps_ret (pe_ifExp (pt_cmpR op_in_seq (pv 3) (pe_tup (pa_cons pe_str (pa_cons pe_str (pa_cons pe_str (pa_cons pe_str (pa_cons pe_str (pa_cons pe_str pa_nil))))))) (by rfl))
      (pe_op op_add_str pe_str (pe_slice sl_str (pv 3) (po_some pe_int) po_none)) (pv 3))))), ?_⟩
  refine ds_seq (ds_asg (de_str ?_))
  rw [alpha_is]
  refine ds_seq (ds_asg (de_addS (de_letters (i := 0) (a := 2) (s := 4) h0 hI (by decide) (by decide) rfl (fun _ => rfl) (fun _ => rfl) fun u hu lu => de_var rfl ⟨u, [c], rfl, rfl, ?_, ?_⟩)))
  · rw [List.length_singleton]
    exact Nat.le_trans (by omega : u.length + 1 ≤ 1000) (by decide)
  refine ds_ret (de_if (dt_test (de_inS (de_var rfl (de_tup ?_)))))
  repeat walk_at "dw"
  refine ⟨by show 6 ≤ sizeLine; decide, tx (u ++ [c]), [("all" : Str), ("any" : Str), ("of" : Str), ("always" : Str), ("never" : Str), ("none" : Str)], rfl, .inr rfl, _, rfl, ?_⟩
  rw [rsv_is]
  have lw : Low (u ++ [c]) := lu.app (Low.one ⟨c0, c1⟩)
  by_cases hm : tx (u ++ [c]) ∈ rsv.map tx
  · rw [decide_eq_true hm, if_pos rfl]
    have h2 := not_b _ (rsv_mem.mp hm)
    match u, h2, hu, lu, lw with
    | [], h2, _, _, _ => exact absurd h2.2 (by show ¬ 2 ≤ 1; decide)
    | x :: u', h2, hu, lu, lw =>
      refine de_addS (de_str (de_slS (de_var rfl ⟨x :: u' ++ [c], rfl, ?_, do_some (de_int ⟨1, rfl, do_none ⟨[98], _, ?_, rfl, ?_, c, 98 :: u', rfl, ?_, ?_, ?_, ?_⟩⟩)⟩)))
      · rw [List.length_append, List.length_singleton]
        exact Nat.le_trans (by omega : (x :: u').length + 1 ≤ 1000) (by decide)
      · exact congrArg D.str (by decide +kernel)
      · rw [cutN_from (by decide)]
        have e : ((x :: u' ++ [c]).drop (Int.toNat 1)).length = u'.length + 1 := by
          show (u' ++ [c]).length = _
          rw [List.length_append, List.length_singleton]
        rw [e, List.length_singleton]
        rw [List.length_cons] at hu
        exact Nat.le_trans (by omega : 1 + (u'.length + 1) ≤ 1000) (by decide)
      · rw [cutN_from (by decide)]
        rfl
      · refine Low.app (fun y hy => ?_) (Low.one ⟨c0, c1⟩)
        rcases List.mem_cons.mp hy with rfl | hy
        · exact ⟨by decide, by decide⟩
        · exact lu y (List.mem_cons_of_mem _ hy)
      · rw [List.length_cons] at hu ⊢
        omega
      · exact fun z => (not_b _ z).1 rfl
  · rw [decide_eq_false hm, if_neg Bool.false_ne_true]
    exact de_var rfl ⟨c, u, rfl, rfl, lw, by omega, fun z => hm (rsv_mem.mpr z)⟩
end
end Dw

/-! LWn: what makes lists of names good. -/
namespace Dw
open PySem PySem.Spec PyProof.Rows L2
def Name (w : List Nat) : Prop := Low w ∧ 1 ≤ w.length ∧ w.length ≤ 6 ∧ w ∉ rsv
instance (l : List Nat) : Decidable (Low l) := inferInstanceAs (Decidable (∀ c ∈ l, 97 ≤ c ∧ c ≤ 122))
instance (w : List Nat) : Decidable (Name w) := inferInstanceAs (Decidable (_ ∧ _ ∧ _ ∧ _))
/-- n different names -/
def Good (n : Nat) (ws : List (List Nat)) : Prop := ws.length = n ∧ ws.Nodup ∧ ∀ w ∈ ws, Name w
instance (n : Nat) (ws : List (List Nat)) : Decidable (Good n ws) := inferInstanceAs (Decidable (_ ∧ _ ∧ _))
def namesD (ws : List (List Nat)) : List D := ws.map fun l => D.str (tx l)
theorem namesD_len (ws : List (List Nat)) : (namesD ws).length = ws.length := by
  unfold namesD
  rw [List.length_map]
theorem Good.take {n m : Nat} {ws : List (List Nat)} (h : Good n ws) (hm : m ≤ n) : Good m (ws.take m) :=
  ⟨by rw [List.length_take, h.1]; omega, h.2.1.sublist (List.take_sublist _ _), fun w hw => h.2.2 w (List.mem_of_mem_take hw)⟩
theorem Good.perm {n : Nat} {ws us : List (List Nat)} (h : Good n ws) (p : us.Perm ws) : Good n us :=
  ⟨by rw [p.length_eq]; exact h.1, p.nodup_iff.mpr h.2.1, fun w hw => h.2.2 w (p.mem_iff.mp hw)⟩
/-- names told apart by a key -/
theorem good_by {α : Type} {n : Nat} {ys : List D} (key : List Nat → α) (κ : Nat → α) (hl : ys.length = n) (h : ∀ i y, i < n → ys[i]? = some y → ∃ w, y = .str (tx w) ∧ Name w ∧ key w = κ i) (inj : ∀ i j, i < n → j < n → κ i = κ j → i = j) :
    ∃ ws, ys = namesD ws ∧ Good n ws := by
  have split : ∃ ws : List (List Nat), ys = namesD ws ∧ ∀ (i : Nat) w, ws[i]? = some w → Name w ∧ key w = κ i := by
    refine ⟨ys.map fun y => match y with | .str s => s.cps.toList | _ => [], List.ext_getElem? fun i => ?_, fun i w e => ?_⟩
    · unfold namesD
      rw [List.map_map, List.getElem?_map]
      cases e : ys[i]? with
      | none => rfl
      | some y =>
        obtain ⟨w, rfl, _⟩ := h i y (by rw [← hl]; exact (List.getElem?_eq_some_iff.mp e).1) e
        rfl
    · rw [List.getElem?_map] at e
      cases e2 : ys[i]? with
      | none =>
        rw [e2] at e
        cases e
      | some y =>
        rw [e2] at e
        obtain ⟨u, rfl, h1⟩ := h i y (by rw [← hl]; exact (List.getElem?_eq_some_iff.mp e2).1) e2
        cases e
        exact h1
  obtain ⟨ws, e, hw⟩ := split
  have hn : ws.length = n := by rw [← namesD_len, ← e, hl]
  refine ⟨ws, e, hn, List.pairwise_iff_getElem.mpr fun i j hi hj hij q => ?_, fun w m => ?_⟩
  · have a1 := (hw i _ (List.getElem?_eq_getElem hi)).2
    have a2 := (hw j _ (List.getElem?_eq_getElem hj)).2
    rw [q, a2] at a1
    have := inj j i (by omega) (by omega) a1
    omega
  · obtain ⟨i, hi⟩ := List.getElem?_of_mem m
    exact (hw i w hi).1
/-- the k-th letter -/
def lt (turn : Int) (k : Nat) : Nat := 97 + ((turn + 7 * (k : Int)) % 26).toNat
theorem lt_ok (turn : Int) (k : Nat) : 97 ≤ lt turn k ∧ lt turn k ≤ 122 := by
  unfold lt
  omega
theorem lt_inj {turn : Int} {i j : Nat} (hi : i < 8) (hj : j < 8) (h : lt turn i = lt turn j) : i = j := by
  unfold lt at h
  omega
/-- no word of a rule holds one of these -/
theorem rsv_no : ∀ w ∈ rsv, 113 ∉ w ∧ 120 ∉ w ∧ 122 ∉ w ∧ 106 ∉ w ∧ 2 ≤ w.length := by decide +kernel
def deskW : List (List Nat) := [[112, 117, 116], [116, 97, 107, 101], [112, 114, 111, 112], [117, 110, 112, 114, 111, 112], [115, 116, 114, 105, 107, 101], [117, 110, 100, 111], [121, 97, 114, 100], [112, 114, 111, 112, 115], [103, 114, 111, 119], [100, 101, 112, 116, 104], [114, 101, 115, 116], [119, 97, 121], [104, 101, 114, 101], [112, 108, 97, 110]]
theorem desk_is : Txt.split "put take prop unprop strike undo yard props grow depth rest way here plan" " " = deskW.map tx := by decide +kernel
theorem desk_good : ∀ f, f < 14 → ∀ m, m ≤ 8 → Good m (((deskW ++ deskW).drop f).take m) := by decide +kernel
def plainW : List (List Nat) := [[98, 97, 115, 101], [108, 101, 102, 116], [114, 105, 103, 104, 116], [114, 111, 111, 102], [115, 111, 109, 101], [110, 101, 118, 101, 114, 115], [97, 108, 108, 111, 102], [111, 102, 97, 110, 121]]
theorem plain_is : Txt.split "base left right roof some nevers allof ofany" " " = plainW.map tx := by decide +kernel
theorem plain_good : Good 8 plainW := by decide +kernel
def pairW (p q : Nat) : List (List Nat) := [[p], [q], [p, q], [q, p], [p, p], [p, p, q], [p, q, p], [q, q]]
theorem pair_good : ∀ t, t < 26 → Good 8 (pairW (97 + t) (97 + (t + 7) % 26)) := by decide +kernel
theorem growW : ∀ t, t < 26 → Good 6 ((List.range 6).map fun k => ((97 + t) :: [113, 120, 122, 106, 107]).take (k + 1)) := by decide +kernel
end Dw

/-! LWm: rules that the def of the names wants. -/
namespace Dw
open PySem PySem.Spec PyProof.Rows L2
section
variable {M : Md} {O : List Addr} {r : List Sl} {q : D → Prop} {te : TE} {E : Kn} {ts tz : TS}
theorem ds_asgG {g : TG} {js : List Nat} (h : De M te O r fun d => DG M g js O r d fun r' => E.nx O r') : DS M (tAsg te g) O r E := fun σ H Z R z =>
  h σ H _ R fun v H1 d R1 e1 p1 q => q v σ H1 _ R1 p1 fun σ' r' R' _ q' => z.nx O r' σ' H1 R' (R1.stp e1) q'
theorem ds_par {ta : TA} {i j : Nat} (h : DA M ta O r fun ds => ∃ d e, ds = [d, e] ∧ E.nx O ((r.set i (.d d)).set j (.d e))) : DS M (tPar i j ta) O r E := fun σ H Z R z =>
  h σ H _ R fun vs H1 ds R1 e1 p1 q => by
    obtain ⟨d, e, rfl, q⟩ := q
    obtain ⟨v, t, rfl, p2, u, t2, rfl, p3, p4⟩ := p1
    obtain rfl : t2 = [] := p4
    exact ⟨v, u, rfl, z.nx O _ _ H1 ((R1.set (s := .d d) ⟨v, rfl, p2⟩ (fun p xs e => nomatch e)).set (s := .d e) ⟨u, rfl, p3⟩ (fun p xs e => nomatch e)) (R1.stp e1) q⟩
/-- what holds between two statements -/
theorem ds_mid (Q : List Addr → List Sl → Prop) (h1 : DS M ts O r { E with nx := Q }) (h2 : ∀ O r, Q O r → DS M tz O r E) : DS M (tSeq ts tz) O r E := ds_seq (h1.imp h2 (fun _ h => h) (fun _ _ h => h) fun _ _ h => h)
/-- an own list becomes data behind a block -/
theorem ds_after (i : Nat) (h : DS M ts O r { E with nx := fun O' r' => ∃ p xs, r'[i]? = some (.mu p xs) ∧ E.nx (O'.erase p) (r'.set i (.d (.lst xs))) }) : DS M ts O r E := fun σ H Z R z =>
  h σ H Z R ⟨fun O1 r1 σ1 H1 R1 a ⟨p, xs, e, q⟩ => z.nx (O1.erase p) _ σ1 H1 (R1.freeze e) ⟨a.1, fun x hx => a.2.1 x (List.mem_of_mem_erase hx), a.2.2⟩ q, z.rt, z.bk, z.ct⟩
/-- letters[(turn + 7 * k) % 26] -/
theorem de_let7 {a t s : Nat} {turn : Int} {j : Nat} (ha : r[a]? = some (.d (.str (tx alpha)))) (ht : r[t]? = some (.d (.int turn))) (hs : r[s]? = some (.d (.int (0 + (j : Int))))) (hj : j < 1000) (h : q (.str (tx [lt turn j]))) :
    De M (tOp rIxS (tVar a) (tOp (rI (fun x j => 0 < j) fun i j => V.int (i % j)) (tOp (rI0 fun i j => V.int (i + j)) (tVar t) (tOp (rI CMul fun i j => V.int (i * j)) (tC (V.int 7)) (tVar s))) (tC (V.int 26)))) O r q := by
  refine de_ixS (de_var ha (de_intC (C := fun x j => 0 < j) (g := fun i j => i % j) (de_intI (de_var ht (de_intC (C := CMul) (g := fun i j => i * j) (de_int (de_var hs ⟨_, _, rfl, rfl, .inl ⟨by omega, by omega⟩, _, _, rfl, rfl, de_int ⟨_, _, rfl, rfl, by decide, alpha, _, 97 + ((turn + 7 * (0 + (j : Int))) % 26).toNat, rfl, rfl, by decide, alpha_at (by omega) (by omega), ?_⟩⟩)))))))
  have e : 97 + ((turn + 7 * (0 + (j : Int))) % 26).toNat = lt turn j := by
    unfold lt
    rw [Int.zero_add]
  rw [e]
  exact h
theorem cutD_to {xs : List D} {b : Int} (h : 0 ≤ b) : cutD xs none (some b) = xs.take b.toNat := by
  unfold cutD
  rw [sIx_at _ _ h]
  show (xs.drop 0).take (min b.toNat xs.length - 0) = _
  rw [List.drop_zero, Nat.sub_zero]
  by_cases e : b.toNat ≤ xs.length
  · rw [Nat.min_eq_left e]
  · rw [Nat.min_eq_right (by omega), List.take_of_length_le (Nat.le_refl _), List.take_of_length_le (by omega)]
theorem cutD_at {xs : List D} {a b : Int} (ha : 0 ≤ a) (hab : a ≤ b) (hb : b ≤ xs.length) : cutD xs (some a) (some b) = (xs.drop a.toNat).take (b - a).toNat := by
  unfold cutD
  rw [sIx_at _ _ ha, sIx_at _ _ (Int.le_trans ha hab), Nat.min_eq_left (by omega), Nat.min_eq_left (by omega)]
  congr 1
  omega
theorem namesD_take (ws : List (List Nat)) (n : Nat) : (namesD ws).take n = namesD (ws.take n) := by
  unfold namesD
  rw [List.map_take]
theorem namesD_drop (ws : List (List Nat)) (n : Nat) : (namesD ws).drop n = namesD (ws.drop n) := by
  unfold namesD
  rw [List.map_drop]
theorem strs_names (ws : List (List Nat)) : (ws.map tx).map D.str = namesD ws := by
  unfold namesD
  rw [List.map_map]
  rfl
/-- drawn into another order: names still -/
theorem names_perm {ws : List (List Nat)} {ys : List D} (p : ys.Perm (namesD ws)) : ∃ us, ys = namesD us ∧ us.Perm ws := by
  let back : D → List Nat := fun y => match y with
    | .str s => s.cps.toList
    | _ => []
  have e1 : (namesD ws).map back = ws := by
    unfold namesD
    rw [List.map_map]
    show ws.map (fun l => l) = ws
    exact List.map_id _
  refine ⟨ys.map back, ?_, by rw [← e1]; exact (p.map back).trans (by rw [e1])⟩
  unfold namesD
  rw [List.map_map]
  refine (List.map_id ys).symm.trans (List.map_congr_left fun y hy => ?_)
  have hy2 := p.mem_iff.mp hy
  unfold namesD at hy2
  obtain ⟨l, _, rfl⟩ := List.mem_map.mp hy2
  rfl
end
theorem name_core {core : List Nat} {a L : Nat} {e z : List Nat} (lc : Low core) (hc : core.length < 4) (ha : a ≤ core.length) (hL : 97 ≤ L ∧ L ≤ 122) (he : (core = [] ∧ e = []) ∨ ∃ c ∈ [113, 120, 122, 106], e = [c]) (hz : z = [] ∨ z = [122]) :
    Name (((core.take a ++ (L :: e)) ++ core.drop a) ++ z) ∧ (((core.take a ++ (L :: e)) ++ core.drop a) ++ z)[a]? = some L := by
  have lz : Low z ∧ z.length ≤ 1 := by
    rcases hz with rfl | rfl
    · exact ⟨fun c h => (nomatch h), Nat.zero_le _⟩
    · exact ⟨Low.one ⟨by decide, by decide⟩, Nat.le_refl _⟩
  have le : Low e ∧ e.length ≤ 1 := by
    rcases he with ⟨_, rfl⟩ | ⟨c, hc, rfl⟩
    · exact ⟨fun c h => (nomatch h), Nat.zero_le _⟩
    · refine ⟨Low.one ?_, Nat.le_refl _⟩
      simp only [List.mem_cons, List.not_mem_nil, or_false] at hc
      omega
  have lt1 : (core.take a).length = a := by rw [List.length_take]; omega
  have l1 : (((core.take a ++ (L :: e)) ++ core.drop a) ++ z).length = core.length + e.length + z.length + 1 := by
    rw [List.length_append, List.length_append, List.length_append, List.length_drop, lt1, List.length_cons]
    omega
  refine ⟨⟨((Low.app (lc.take a) (Low.app (Low.one hL) le.1)).app (lc.drop a)).app lz.1, by omega, by omega, fun hr => ?_⟩, ?_⟩
  · have no := rsv_no _ hr
    rcases he with ⟨rfl, rfl⟩ | ⟨c, hc, rfl⟩
    · rcases hz with rfl | rfl
      · have := no.2.2.2.2
        rw [l1] at this
        simp at this
      · exact no.2.2.1 (by simp)
    · have hm : c ∈ ((core.take a ++ (L :: [c])) ++ core.drop a) ++ z := by simp
      simp only [List.mem_cons, List.not_mem_nil, or_false] at hc
      rcases hc with rfl | rfl | rfl | rfl
      · exact no.1 hm
      · exact no.2.1 hm
      · exact no.2.2.1 hm
      · exact no.2.2.2.1 hm
  · rw [List.append_assoc, List.append_assoc, List.getElem?_append_right (by omega), lt1, Nat.sub_self]
    rfl
theorem atI_nat {α : Type} {xs : List α} {k : Nat} {x : α} (h : xs[k]? = some x) : atI xs (0 + (k : Int)) = some x := by
  have hk : k < xs.length := (List.getElem?_eq_some_iff.mp h).1
  unfold atI ixN
  rw [Int.zero_add, if_pos (by omega), if_pos (by omega)]
  show xs[(k : Int).toNat]? = _
  rw [Int.toNat_natCast]
  exact h
theorem name_five {core : List Nat} {L : Nat} (lc : Low core) (hc : core.length < 4) (hL : 97 ≤ L ∧ L ≤ 122) : Name ((core ++ [113, 106, 120, 113, 106]).take 5 ++ [L]) ∧ ((core ++ [113, 106, 120, 113, 106]).take 5 ++ [L])[5]? = some L := by
  have l5 : ((core ++ [113, 106, 120, 113, 106]).take 5).length = 5 := by
    rw [List.length_take, List.length_append]
    show min 5 (core.length + 5) = 5
    omega
  have l6 : ((core ++ [113, 106, 120, 113, 106]).take 5 ++ [L]).length = 6 := by rw [List.length_append, l5]; rfl
  have lq : Low [113, 106, 120, 113, 106] := by decide
  refine ⟨⟨(Low.take 5 (lc.app lq)).app (Low.one hL), by omega, by omega, fun hr => (rsv_no _ hr).1 (List.mem_append_left _ ?_)⟩, ?_⟩
  · have e : (core ++ [113, 106, 120, 113, 106])[core.length]? = some 113 := by
      rw [List.getElem?_append_right (Nat.le_refl _), Nat.sub_self]
      rfl
    refine List.mem_of_getElem? (i := core.length) ?_
    rw [List.getElem?_take, if_pos (by omega)]
    exact e
  · rw [List.getElem?_append_right (by omega), l5]
    rfl
theorem name_grow {t k : Nat} (ht : t < 26) (hk : k < 6) : Name (((97 + t) :: [113, 120, 122, 106, 107]).take (k + 1)) ∧ (((97 + t) :: [113, 120, 122, 106, 107]).take (k + 1)).length = k + 1 :=
  ⟨(growW t ht).2.2 _ (List.mem_map.mpr ⟨k, List.mem_range.mpr hk, rfl⟩), by rw [List.length_take]; show min (k + 1) 6 = k + 1; omega⟩
theorem desk_cut {f m : Int} (f0 : 0 ≤ f) (f1 : f < 14) (m0 : 0 ≤ m) (m8 : m ≤ 8) : ∃ ws, cutD (List.replicate (Int.toNat 2) (namesD deskW)).flatten (some f) (some (f + m)) = namesD ws ∧ Good m.toNat ws := by
  have e : (List.replicate (Int.toNat 2) (namesD deskW)).flatten = namesD (deskW ++ deskW) := by
    show (List.replicate 2 (namesD deskW)).flatten = _
    unfold namesD
    rw [List.map_append]
    simp [List.replicate]
  refine ⟨((deskW ++ deskW).drop f.toNat).take m.toNat, ?_, desk_good f.toNat (by omega) m.toNat (by omega)⟩
  rw [e, cutD_at f0 (by omega) (by rw [namesD_len]; show f + m ≤ ((28 : Nat) : Int); omega), namesD_drop, namesD_take]
  congr 2
  omega
end Dw

/-! LWc: distinct names. -/
namespace Dw
open PySem PySem.Spec PyProof.Rows L2
abbrev nWor : List Str := ["_law_deal_here", "_law_many", "_law_letters", "_law_form", "_law_core", "_law_at", "_law_turn", "_law_own", "_law_found", "_law_words_here", "_law_first", "_law_p", "_law_q", "_law_k"]
theorem scWor : FnScope nWor ["_law_deal_here", "_law_many"] (defScope sWor) := ⟨rfl, rfl, rfl, by decide +kernel, rfl, by decide +kernel, by decide +kernel⟩
local macro_rules | `(tactic| walk_at "dw") => `(tactic| first
  | refine de_var rfl ?_ | refine de_int ?_ | refine de_str ?_ | refine de_bl ?_ | refine de_non ?_
  | refine de_intI ?_ | refine de_intB ?_ | refine de_intC ?_ | refine de_eq ?_ | refine de_ne ?_
  | refine da_nil ?_ | refine da_cons ?_ | refine de_max2 ?_ | refine do_none ?_ | refine do_some ?_ | refine dt_test ?_ | refine dt_B ?_ | refine dt_yes ?_
  | refine ⟨_, _, rfl, rfl, ?_⟩ | refine ⟨_, rfl, ?_⟩)
theorem nil_is : (("" : String) : Str) = tx [] := by decide +kernel
def preWor (g : Addr × Addr) (ds : List D) : Prop := ∃ m : Int, ds = [.ref g.1, .int m] ∧ 0 ≤ m ∧ m ≤ 8
def postWor (_ : Addr × Addr) (ds : List D) (d : D) : Prop := ∃ (m : Int) (ws : List (List Nat)), ds[1]? = some (.int m) ∧ d = .lst (namesD ws) ∧ Good m.toNat ws
def WorI (g : Addr × Addr) (many form at_ turn : Int) (core : List Nat) (O : List Addr) (r : List Sl) : Prop :=
  O = [] ∧ ∃ (ws : List (List Nat)) (s7 s9 s10 s11 s12 s13 : Sl), Good many.toNat ws ∧ r = [.d (.ref g.1), .d (.int many), .d (.str (tx alpha)), .d (.int form), .d (.str (tx core)), .d (.int at_), .d (.int turn), s7, .d (.lst (namesD ws)), s9, s10, s11, s12, s13]
section
variable {P : Program} {w : World} {K : PySem.W.Frag} {mg : Str → Option Value} {base : Heap}
set_option maxHeartbeats 4000000 in
theorem ok_wor {f fD fM fA : Addr} {fd fdD fdM fdA : FuncData} {k : Nat} (F : Fun K "_law_words" "_law_words" sWor f fd) (FD : FnOk P w K mg base CX0 k fD fdD ["_law_deal_here", "_law_many"] (spDraw K)) (gD : mg "_law_draw" = some (.ref fD)) (kD : PySem.W.keepIn K (.ref fD) = true) (bD : Binds K fdD ["_law_deal_here", "_law_many"] [])
    (FM : FnOk P w K mg base CX0 k fM fdM ["_law_deal_here", "_law_items"] (SpD K dealS preMix postMix)) (gM : mg "_law_mixed" = some (.ref fM)) (kM : PySem.W.keepIn K (.ref fM) = true) (bM : Binds K fdM ["_law_deal_here", "_law_items"] [])
    (FA : FnOk P w K mg base CX0 k fA fdA ["_law_deal_here", "_law_last"] (SpD K dealS preAny postAny)) (gA : mg "_law_any_word" = some (.ref fA)) (kA : PySem.W.keepIn K (.ref fA) = true) (bA : Binds K fdA ["_law_deal_here", "_law_last"] [])
    (mR : mg "range" = none) (mN : mg "len" = none) (mI : mg "int" = none) : FnOk P w K mg base CX0 (k + 1) f fd ["_law_deal_here", "_law_many"] (SpD K dealS preWor postWor) := by
  refine fn_dw (S := dealS) F scWor (fun g ds ⟨m, e, _⟩ => by rw [e]; rfl) fun cdv A outer s H E g ds F1 f0 tr hr pre => ?_
  have h0 : (mdOf K dealS g H F1 f0 tr).F0 = dealS.F0 g := rfl
  have hI : (mdOf K dealS g H F1 f0 tr).I = dealS.I g := rfl
  refine ⟨_, (pss_cons (ps_asg (pe_tup (pa_cons pe_str (pa_cons (pe_call FD hr (by rfl) gD kD bD .nil pass0 (pa_cons (pv 0) (pa_cons pe_int pa_nil))) pa_nil))) (pg_tup rfl (pgs_cons (pg_name (i := 2) scWor.nd rfl (Or.inr rfl)) (pgs_cons (pg_name (i := 3) scWor.nd rfl (Or.inl rfl)) pgs_nil)))) (pss_cons (ps_set (i := 4) scWor.nd rfl (Or.inr rfl) (pe_join pe_str (pe_lc (own := [("_law_k", 13)]) (g := gName 13) (tt := tYes) (by rfl) scWor.nd (pi_range1 (by rfl) mR (pa_cons (pe_call FD hr (by rfl) gD kD bD .nil pass0 (pa_cons (pv 0) (pa_cons pe_int pa_nil))) pa_nil)) (blkOk_by (N := nWor) (sc := defScope sWor) (by decide +kernel)) (fun _ _ _ _ _ => (pg_name (i := 13) scWor.nd rfl (Or.inl rfl))) (fun _ _ _ _ _ => pts_nil) (fun _ _ _ _ _ => (pe_ix ix_str (pv 2) (pe_call FD hr (by rfl) gD kD bD .nil pass0 (pa_cons (pv 0) (pa_cons pe_int pa_nil))) (fun _ _ => rfl)))))) (pss_cons (ps_asg (pe_tup (pa_cons (pe_call FD hr (by rfl) gD kD bD .nil pass0 (pa_cons (pv 0) (pa_cons (pe_op op_add (pe_callB call_len_str (by rfl) mN PySem.boot_len (pa_cons (pv 4) pa_nil)) pe_int) pa_nil))) (pa_cons (pe_call FD hr (by rfl) gD kD bD .nil pass0 (pa_cons (pv 0) (pa_cons pe_int pa_nil))) pa_nil))) (pg_tup rfl (pgs_cons (pg_name (i := 5) scWor.nd rfl (Or.inr rfl)) (pgs_cons (pg_name (i := 6) scWor.nd rfl (Or.inr rfl)) pgs_nil)))) (pss_cons (ps_set (i := 7) scWor.nd rfl (Or.inr rfl) (pe_lc (own := [("_law_k", 13)]) (g := gName 13) (tt := tYes) (by rfl) scWor.nd (pi_range1 (by rfl) mR (pa_cons (pv 1) pa_nil)) (blkOk_by (N := nWor) (sc := defScope sWor) (by decide +kernel)) (fun _ _ _ _ _ => (pg_name (i := 13) scWor.nd rfl (Or.inl rfl))) (fun _ _ _ _ _ => pts_nil) (fun _ _ _ _ _ => (pe_op op_add_str (pe_ix ix_str (pv 2) (pe_op op_mod (pe_op op_add (pv 6) (pe_op op_mul pe_int (pv 13))) pe_int) (fun _ _ => rfl)) (pe_ix (show IxR _ (rIxL K) from ix_list) (pe_lst (pa_cons (pe_ix ix_str pe_str (pe_call FD hr (by rfl) gD kD bD .nil pass0 (pa_cons (pv 0) (pa_cons pe_int pa_nil))) (fun _ _ => rfl)) (pa_cons pe_str pa_nil))) (pe_callTy call_int1 (by rfl) mI (by decide +kernel) (pa_cons (pe_cmpR op_eq (pv 4) pe_str (nomark _)) pa_nil)) (fun _ _ => rfl)))))) (pss_cons (ps_setLc (i := 8) (own := [("_law_k", 13)]) (g := gName 13) (tt := tYes) rfl scWor.nd rfl rfl (sw_true rfl rfl rfl (by decide +kernel)) (pi_range1 (by rfl) mR (pa_cons (pv 1) pa_nil)) (blkOk_by (N := nWor) (sc := defScope sWor) (by decide +kernel)) (fun _ _ _ _ _ => (pg_name (i := 13) scWor.nd rfl (Or.inl rfl))) (fun _ _ _ _ _ => pts_nil) (fun _ _ _ _ _ => (pe_op op_add_str (pe_op op_add_str (pe_op op_add_str (pe_slice sl_str (pv 4) po_none (po_some (pv 5))) (pe_ix (show IxR _ (rIxL K) from ix_list) (pv 7) (pv 13) (fun _ _ => rfl))) (pe_slice sl_str (pv 4) (po_some (pv 5)) po_none)) (pe_op op_mulS pe_str (pe_op op_mod (pv 13) pe_int))))) (pss_cons (ps_if (pt_cmpR op_eq (pv 3) pe_int (nomark _)) (pss_cons (ps_set (i := 9) scWor.nd rfl (Or.inl rfl) (pe_split pe_str pe_str)) (pss_cons (ps_set (i := 10) scWor.nd rfl (Or.inl rfl) (pe_call FD hr (by rfl) gD kD bD .nil pass0 (pa_cons (pv 0) (pa_cons pe_int pa_nil)))) (pss_one (ps_set (i := 8) scWor.nd rfl (Or.inl rfl) (pe_slice sl_list (pe_op op_rep (pv 9) pe_int) (po_some (pv 10)) (po_some (pe_op op_add (pv 10) (pv 1)))))))) pss_nil) (pss_cons (ps_if (PW.pt (pw_and (pt_cmpR op_eq (pv 3) pe_int (nomark _)) (pw_and1 (pt_cmpR op_lt (pv 1) pe_int (nomark _))))) (pss_one (ps_setLc (i := 8) (own := [("_law_k", 13)]) (g := gName 13) (tt := tYes) rfl scWor.nd rfl rfl (sw_true rfl rfl rfl (by decide +kernel)) (pi_range1 (by rfl) mR (pa_cons (pv 1) pa_nil)) (blkOk_by (N := nWor) (sc := defScope sWor) (by decide +kernel)) (fun _ _ _ _ _ => (pg_name (i := 13) scWor.nd rfl (Or.inl rfl))) (fun _ _ _ _ _ => pts_nil) (fun _ _ _ _ _ => (pe_slice sl_str (pe_op op_add_str (pe_ix ix_str (pv 2) (pv 6) (fun _ _ => rfl)) pe_str) po_none (po_some (pe_op op_add (pv 13) pe_int)))))) pss_nil) (pss_cons (ps_if (pt_cmpR op_eq (pv 3) pe_int (nomark _)) (pss_one (ps_setLc (i := 8) (own := [("_law_k", 13)]) (g := gName 13) (tt := tYes) rfl scWor.nd rfl rfl (sw_true rfl rfl rfl (by decide +kernel)) (pi_range1 (by rfl) mR (pa_cons (pv 1) pa_nil)) (blkOk_by (N := nWor) (sc := defScope sWor) (by decide +kernel)) (fun _ _ _ _ _ => (pg_name (i := 13) scWor.nd rfl (Or.inl rfl))) (fun _ _ _ _ _ => pts_nil) (fun _ _ _ _ _ => (pe_op op_add_str (pe_slice sl_str (pe_op op_add_str (pv 4) pe_str) po_none (po_some pe_int)) (pe_ix ix_str (pv 2) (pe_op op_mod (pe_op op_add (pv 6) (pe_op op_mul pe_int (pv 13))) pe_int) (fun _ _ => rfl)))))) pss_nil) (pss_cons (ps_if (pt_cmpR op_eq (pv 3) pe_int (nomark _)) (pss_one (ps_setLc (i := 8) (own := [("_law_k", 13)]) (g := gName 13) (tt := tYes) rfl scWor.nd rfl rfl (sw_true rfl rfl rfl (by decide +kernel)) (pi_range1 (by rfl) mR (pa_cons (pv 1) pa_nil)) (blkOk_by (N := nWor) (sc := defScope sWor) (by decide +kernel)) (fun _ _ _ _ _ => (pg_name (i := 13) scWor.nd rfl (Or.inl rfl))) (fun _ _ _ _ _ => pts_nil) (fun _ _ _ _ _ => (pe_call FA hr (by rfl) gA kA bA .nil pass0 (pa_cons (pv 0) (pa_cons (pe_ix ix_str (pv 2) (pe_op op_mod (pe_op op_add (pv 6) (pe_op op_mul pe_int (pv 13))) pe_int) (fun _ _ => rfl)) pa_nil)))))) pss_nil) (pss_cons (ps_if (pt_cmpR op_eq (pv 3) pe_int (nomark _)) (pss_one (ps_set (i := 8) scWor.nd rfl (Or.inl rfl) (pe_slice sl_list (pe_split pe_str pe_str) po_none (po_some (pv 1))))) pss_nil) (pss_cons (ps_if (pt_cmpR op_eq (pv 3) pe_int (nomark _)) (pss_cons (ps_par (i := 11) (j := 12) rfl scWor.nd rfl rfl (by decide) rfl rfl (pa_cons (pe_ix ix_str (pv 2) (pv 6) (fun _ _ => rfl)) (pa_cons (pe_ix ix_str (pv 2) (pe_op op_mod (pe_op op_add (pv 6) pe_int) pe_int) (fun _ _ => rfl)) pa_nil)) (by rfl)) (pss_one (ps_set (i := 8) scWor.nd rfl (Or.inl rfl) (pe_slice sl_list (pe_lst (pa_cons (pv 11) (pa_cons (pv 12) (pa_cons (pe_op op_add_str (pv 11) (pv 12)) (pa_cons (pe_op op_add_str (pv 12) (pv 11)) (pa_cons (pe_op op_add_str (pv 11) (pv 11)) (pa_cons (pe_op op_add_str (pe_op op_add_str (pv 11) (pv 11)) (pv 12)) (pa_cons (pe_op op_add_str (pe_op op_add_str (pv 11) (pv 12)) (pv 11)) (pa_cons (pe_op op_add_str (pv 12) (pv 12)) pa_nil))))))))) po_none (po_some (pv 1)))))) pss_nil) (pss_one (ps_ret (pe_call FM hr (by rfl) gM kM bM .nil pass0 (pa_cons (pv 0) (pa_cons (pv 8) pa_nil)))))))))))))))), ?_⟩
  obtain ⟨many, rfl, m0, m8⟩ := pre
  refine ds_seq (ds_asgG (js := [2, 3]) (de_tup (da_cons (de_str (da_cons (de_draw (i := 0) h0 hI rfl (by decide) (by decide) fun form fo0 fo1 => da_nil ⟨by show 2 ≤ sizeLine; decide, ?_⟩))))))
  refine dg_tup rfl (dgs_cons (dg_name (dgs_cons (dg_name (dgs_nil ?_)))))
  rw [alpha_is]
  refine ds_seq (ds_asg (de_letters (i := 0) (a := 2) (s := 13) h0 hI (by decide) (by decide) rfl (fun _ => rfl) (fun _ => rfl) fun core hc lc => ?_))
  have c1000 : core.length ≤ 1000 := by omega
  have cline : core.length ≤ sizeLine := Nat.le_trans c1000 (by decide)
  refine ds_seq (ds_asgG (js := [5, 6]) (de_tup (da_cons (de_call g h0 hI (da_cons (de_var rfl (da_cons (de_intI (de_lenS (de_var rfl ⟨tx core, rfl, by rw [tx_len]; exact cline, de_int ⟨_, _, rfl, rfl, da_nil ?_⟩⟩))))))))))
  rw [tx_len]
  refine ⟨⟨_, rfl, by omega, by omega⟩, fun d ⟨n, at_, e, ed, a0, a1⟩ => ?_⟩
  cases e
  subst ed
  refine da_cons (de_draw (i := 0) h0 hI rfl (by decide) (by decide) fun turn t0 t1 => da_nil ⟨by show 2 ≤ sizeLine; decide, ?_⟩)
  refine dg_tup rfl (dgs_cons (dg_name (dgs_cons (dg_name (dgs_nil ?_)))))
  -- own
  refine ds_seq (ds_asg (de_lcP (js := [13]) (fun k _ y => ∃ e : List Nat, y = .str (tx (lt turn k :: e)) ∧ ((core = [] ∧ e = []) ∨ ∃ c ∈ [113, 120, 122, 106], e = [c])) (fun j h => h) (di_range1 (da_cons (de_var rfl (da_nil ⟨many, rfl, ⟨by omega, by omega⟩, ?_⟩))))))
  refine ⟨by rw [rangeD_len]; exact Nat.lt_of_lt_of_le (by omega : many.toNat < 1000) (by decide), fun O' k x hx => ?_, fun own hol hown => ?_⟩
  · obtain ⟨hk, rfl⟩ := rangeD_get hx
    refine dg_name (de_addS (de_let7 (a := 2) (t := 6) (s := 13) rfl rfl rfl (by omega) ?_))
    refine de_ixL (de_lst (da_cons (de_ixS (de_str (de_draw (i := 0) h0 hI rfl (by decide) (by decide) fun v v0 v1 => ?_)))))
    have pick : ∃ c ∈ [113, 120, 122, 106], atI [113, 120, 122, 106] v = some c := by
      have z : v = 0 ∨ v = 1 ∨ v = 2 ∨ v = 3 := by omega
      rcases z with rfl | rfl | rfl | rfl <;> exact ⟨_, by decide, rfl⟩
    obtain ⟨c, hcm, hc2⟩ := pick
    refine ⟨[113, 120, 122, 106], v, c, congrArg D.str (by decide +kernel), rfl, by decide, hc2, ?_⟩
    refine da_cons (de_str (da_nil ⟨by show 2 ≤ sizeLine; decide, de_int1 (de_eq (de_var rfl (de_str ⟨_, _, rfl, rfl, rfl, _, rfl, ?_⟩)))⟩))
    rw [nil_is]
    by_cases hcore : core = []
    · have e1 : decide (V.str (tx core) = V.str (tx [])) = true := decide_eq_true (by rw [hcore])
      rw [e1]
      exact ⟨_, 1, .str (tx []), rfl, rfl, rfl, [lt turn k], [], rfl, rfl, by show 1 ≤ sizeLine; decide, [], rfl, .inl ⟨hcore, rfl⟩⟩
    · have e1 : decide (V.str (tx core) = V.str (tx [])) = false := decide_eq_false fun z => hcore (tx_inj (V.str.inj z))
      rw [e1]
      exact ⟨_, 0, .str (tx [c]), rfl, rfl, rfl, [lt turn k], [c], rfl, rfl, by show 2 ≤ sizeLine; decide, [c], rfl, .inr ⟨c, hcm, rfl⟩⟩
  rw [rangeD_len] at hol
  have own_at : ∀ k : Nat, k < many.toNat → ∃ e : List Nat, own[k]? = some (.str (tx (lt turn k :: e))) ∧ ((core = [] ∧ e = []) ∨ ∃ c ∈ [113, 120, 122, 106], e = [c]) := fun k hk => by
    have h1 : own[k]? = some own[k] := List.getElem?_eq_getElem (by omega)
    obtain ⟨x, hx⟩ : ∃ x, (rangeD 0 many.toNat)[k]? = some x := ⟨_, List.getElem?_eq_getElem (by rw [rangeD_len]; exact hk)⟩
    obtain ⟨e, he, hc⟩ := hown k x _ hx h1
    exact ⟨e, by rw [h1, he], hc⟩
  -- found
  refine ds_mid (WorI g many form at_ turn core) (ds_asg (de_lcP (js := [13]) (fun k _ y => ∃ w : List Nat, y = .str (tx w) ∧ Name w ∧ w[at_.toNat]? = some (lt turn k)) (fun j h => h) (di_range1 (da_cons (de_var rfl (da_nil ⟨many, rfl, ⟨by omega, by omega⟩, ?_⟩)))))) fun O1 r1 hv => ?_
  · refine ⟨by rw [rangeD_len]; exact Nat.lt_of_lt_of_le (by omega : many.toNat < 1000) (by decide), fun O' k x hx => ?_, fun ys hys hyc => ?_⟩
    · obtain ⟨hk, rfl⟩ := rangeD_get hx
      obtain ⟨e, oe, he⟩ := own_at k hk
      have b1 : ∀ n : Nat, n ≤ 1000 → n ≤ sizeLine := fun n h => Nat.le_trans h (by decide)
      have e1 : e.length ≤ 1 := by
        rcases he with ⟨_, rfl⟩ | ⟨c, _, rfl⟩
        · exact Nat.zero_le _
        · exact Nat.le_refl _
      refine dg_name (de_addS (de_addS (de_addS (de_slS (de_var rfl ⟨core, rfl, cline, do_none (do_some (de_var rfl ⟨at_, rfl, ?_⟩))⟩)))))
      rw [cutN_to a0]
      refine de_ixL (de_var rfl (de_var rfl ⟨own, _, _, rfl, rfl, atI_nat oe, _, _, rfl, rfl, ?_, ?_⟩))
      · refine b1 _ ?_
        rw [List.length_take, List.length_cons]
        omega
      refine de_slS (de_var rfl ⟨core, rfl, cline, do_some (de_var rfl ⟨at_, rfl, do_none ⟨_, _, rfl, rfl, ?_, ?_⟩⟩)⟩)
      · refine b1 _ ?_
        rw [cutN_from a0, List.length_append, List.length_take, List.length_cons, List.length_drop]
        omega
      rw [cutN_from a0]
      refine de_mulS (de_str (de_intC (C := fun x j => 0 < j) (g := fun i j => i % j) (de_var rfl (de_int ⟨_, _, rfl, rfl, by decide, [122], decide (k % 2 = 1), congrArg D.str (by decide +kernel), ?_, _, _, rfl, rfl, ?_, ?_⟩))))
      · refine congrArg D.int ?_
        by_cases h : k % 2 = 1
        · rw [decide_eq_true h, if_pos rfl]
          omega
        · rw [decide_eq_false h, if_neg Bool.false_ne_true]
          omega
      · refine b1 _ ?_
        rw [List.length_append, List.length_append, List.length_take, List.length_cons, List.length_drop]
        have : (if decide (k % 2 = 1) = true then [122] else [] : List Nat).length ≤ 1 := by split <;> decide
        omega
      · obtain ⟨n1, n2⟩ := name_core (a := at_.toNat) (e := e) (z := if decide (k % 2 = 1) = true then [122] else []) lc (by omega) (by omega) (lt_ok turn k) he (by
          split
          · exact .inr rfl
          · exact .inl rfl)
        exact ⟨_, rfl, n1, n2⟩
    · rw [rangeD_len] at hys
      obtain ⟨ws, rfl, hg⟩ := good_by (fun w => w[at_.toNat]?) (fun k => some (lt turn k)) hys (fun i y hi hy => by
        obtain ⟨x, hx⟩ : ∃ x, (rangeD 0 many.toNat)[i]? = some x := ⟨_, List.getElem?_eq_getElem (by rw [rangeD_len]; exact hi)⟩
        exact hyc i x y hx hy) fun i j hi hj e => lt_inj (by omega) (by omega) (Option.some.inj e)
      exact ⟨rfl, ws, _, _, _, _, _, _, hg, rfl⟩
  obtain ⟨rfl, ws, s7, s9, s10, s11, s12, s13, hg, rfl⟩ := hv
  -- form 0
  refine ds_mid (WorI g many form at_ turn core) (ds_ifN (dt_test (de_eq (de_var rfl (de_int ⟨_, _, rfl, rfl, rfl, _, rfl, fun _ => ?_⟩)))) ⟨rfl, ws, _, _, _, _, _, _, hg, rfl⟩) fun O1 r1 hv => ?_
  · refine ds_after 9 (ds_seq (ds_ownSplit (i := 9) (by decide +kernel) (by decide +kernel) (by decide +kernel) fun p hp => ?_))
    rw [desk_is, strs_names]
    refine ds_seq (ds_asg (de_draw (i := 0) h0 hI rfl (by decide) (by decide) fun first fi0 fi1 => ?_))
    refine ds_asg (de_slL (de_repO 9 rfl (de_int ⟨2, rfl, by decide, by decide, by rw [namesD_len]; decide, _, rfl, do_some (de_var rfl ⟨first, rfl, do_some (de_intI (de_var rfl (de_var rfl ⟨_, _, rfl, rfl, _, rfl, ?_⟩)))⟩)⟩)))
    obtain ⟨us, eu, gu⟩ := desk_cut fi0 fi1 m0 m8
    rw [eu]
    exact ⟨p, namesD deskW, rfl, by simp, us, _, _, _, _, _, _, gu, rfl⟩
  obtain ⟨rfl, ws, s7, s9, s10, s11, s12, s13, hg, rfl⟩ := hv
  -- form 1
  refine ds_mid (WorI g many form at_ turn core) (ds_ifN (dt_andN (dt_test (de_eq (de_var rfl (de_int ⟨_, _, rfl, rfl, rfl, _, rfl, fun _ => dt_test (de_intB (de_var rfl (de_int ⟨_, _, rfl, rfl, _, rfl, fun h7 => ?_⟩)))⟩))))) ⟨rfl, ws, _, _, _, _, _, _, hg, rfl⟩) fun O1 r1 hv => ?_
  · have m7 : many < 7 := of_decide_eq_true h7
    refine ds_asg (de_lcP (js := [13]) (fun k _ y => ∃ w : List Nat, y = .str (tx w) ∧ Name w ∧ w.length = k + 1) (fun j h => h) (di_range1 (da_cons (de_var rfl (da_nil ⟨many, rfl, ⟨by omega, by omega⟩, ?_⟩)))))
    refine ⟨by rw [rangeD_len]; exact Nat.lt_of_lt_of_le (by omega : many.toNat < 1000) (by decide), fun O' k x hx => ?_, fun ys hys hyc => ?_⟩
    · obtain ⟨hk, rfl⟩ := rangeD_get hx
      refine dg_name (de_slS (de_addS (de_ixS (de_var rfl (de_var rfl ⟨alpha, turn, _, rfl, rfl, by decide, alpha_at t0 t1, de_str ⟨_, [113, 120, 122, 106, 107], rfl, congrArg D.str (by decide +kernel), by show 6 ≤ sizeLine; decide, _, rfl, by show 6 ≤ sizeLine; decide, do_none (do_some (de_intI (de_var rfl (de_int ⟨_, _, rfl, rfl, _, rfl, ?_⟩))))⟩⟩)))))
      rw [cutN_to (by omega)]
      have e : (0 + (k : Int) + 1).toNat = k + 1 := by omega
      rw [e]
      obtain ⟨g1, g2⟩ := name_grow (t := turn.toNat) (k := k) (by omega) (by omega)
      exact ⟨_, rfl, g1, g2⟩
    · rw [rangeD_len] at hys
      obtain ⟨us, rfl, hg⟩ := good_by List.length (fun k => k + 1) hys (fun i y hi hy => by
        obtain ⟨x, hx⟩ : ∃ x, (rangeD 0 many.toNat)[i]? = some x := ⟨_, List.getElem?_eq_getElem (by rw [rangeD_len]; exact hi)⟩
        exact hyc i x y hx hy) fun i j hi hj e => by omega
      exact ⟨rfl, us, _, _, _, _, _, _, hg, rfl⟩
  obtain ⟨rfl, ws, s7, s9, s10, s11, s12, s13, hg, rfl⟩ := hv
  -- form 2
  refine ds_mid (WorI g many form at_ turn core) (ds_ifN (dt_test (de_eq (de_var rfl (de_int ⟨_, _, rfl, rfl, rfl, _, rfl, fun _ => ?_⟩)))) ⟨rfl, ws, _, _, _, _, _, _, hg, rfl⟩) fun O1 r1 hv => ?_
  · refine ds_asg (de_lcP (js := [13]) (fun k _ y => ∃ w : List Nat, y = .str (tx w) ∧ Name w ∧ w[5]? = some (lt turn k)) (fun j h => h) (di_range1 (da_cons (de_var rfl (da_nil ⟨many, rfl, ⟨by omega, by omega⟩, ?_⟩)))))
    refine ⟨by rw [rangeD_len]; exact Nat.lt_of_lt_of_le (by omega : many.toNat < 1000) (by decide), fun O' k x hx => ?_, fun ys hys hyc => ?_⟩
    · obtain ⟨hk, rfl⟩ := rangeD_get hx
      have lcq : (core ++ [113, 106, 120, 113, 106]).length ≤ sizeLine := by
        rw [List.length_append]
        exact Nat.le_trans (by show core.length + 5 ≤ 1000; omega) (by decide)
      refine dg_name (de_addS (de_slS (de_addS (de_var rfl (de_str ⟨core, [113, 106, 120, 113, 106], rfl, congrArg D.str (by decide +kernel), by rw [← List.length_append]; exact lcq, _, rfl, lcq, do_none (do_some (de_int ⟨5, rfl, ?_⟩))⟩)))))
      refine de_let7 (a := 2) (t := 6) (s := 13) rfl rfl rfl (by omega) ⟨_, _, rfl, rfl, ?_, ?_⟩
      · rw [cutN_to (by decide), List.length_take]
        exact Nat.le_trans (by show min 5 _ + 1 ≤ 1000; omega) (by decide)
      · rw [cutN_to (by decide)]
        obtain ⟨g1, g2⟩ := name_five (L := lt turn k) lc (by omega) (lt_ok turn k)
        exact ⟨_, rfl, g1, g2⟩
    · rw [rangeD_len] at hys
      obtain ⟨us, rfl, hg⟩ := good_by (fun w => w[5]?) (fun k => some (lt turn k)) hys (fun i y hi hy => by
        obtain ⟨x, hx⟩ : ∃ x, (rangeD 0 many.toNat)[i]? = some x := ⟨_, List.getElem?_eq_getElem (by rw [rangeD_len]; exact hi)⟩
        exact hyc i x y hx hy) fun i j hi hj e => lt_inj (by omega) (by omega) (Option.some.inj e)
      exact ⟨rfl, us, _, _, _, _, _, _, hg, rfl⟩
  obtain ⟨rfl, ws, s7, s9, s10, s11, s12, s13, hg, rfl⟩ := hv
  -- form 3
  refine ds_mid (WorI g many form at_ turn core) (ds_ifN (dt_test (de_eq (de_var rfl (de_int ⟨_, _, rfl, rfl, rfl, _, rfl, fun _ => ?_⟩)))) ⟨rfl, ws, _, _, _, _, _, _, hg, rfl⟩) fun O1 r1 hv => ?_
  · refine ds_asg (de_lcP (js := [13]) (fun k _ y => ∃ w : List Nat, y = .str (tx w) ∧ Name w ∧ w.getLast? = some (lt turn k)) (fun j h => h) (di_range1 (da_cons (de_var rfl (da_nil ⟨many, rfl, ⟨by omega, by omega⟩, ?_⟩)))))
    refine ⟨by rw [rangeD_len]; exact Nat.lt_of_lt_of_le (by omega : many.toNat < 1000) (by decide), fun O' k x hx => ?_, fun ys hys hyc => ?_⟩
    · obtain ⟨hk, rfl⟩ := rangeD_get hx
      refine dg_name (de_call g h0 hI (da_cons (de_var rfl (da_cons (de_let7 (a := 2) (t := 6) (s := 13) rfl rfl rfl (by omega) (da_nil ⟨⟨lt turn k, rfl, lt_ok turn k⟩, fun d hd => ?_⟩))))))
      obtain ⟨c, u, ec, rfl, lw, lu, nr⟩ := hd
      have e2 : lt turn k = c := by
        have := tx_inj (D.str.inj (Option.some.inj ec))
        exact List.head_eq_of_cons_eq this
      subst e2
      refine ⟨_, rfl, ⟨lw, ?_, ?_, nr⟩, by simp⟩
      · rw [List.length_append, List.length_singleton]
        omega
      · rw [List.length_append, List.length_singleton]
        omega
    · rw [rangeD_len] at hys
      obtain ⟨us, rfl, hg⟩ := good_by List.getLast? (fun k => some (lt turn k)) hys (fun i y hi hy => by
        obtain ⟨x, hx⟩ : ∃ x, (rangeD 0 many.toNat)[i]? = some x := ⟨_, List.getElem?_eq_getElem (by rw [rangeD_len]; exact hi)⟩
        exact hyc i x y hx hy) fun i j hi hj e => lt_inj (by omega) (by omega) (Option.some.inj e)
      exact ⟨rfl, us, _, _, _, _, _, _, hg, rfl⟩
  obtain ⟨rfl, ws, s7, s9, s10, s11, s12, s13, hg, rfl⟩ := hv
  -- form 4
  refine ds_mid (WorI g many form at_ turn core) (ds_ifN (dt_test (de_eq (de_var rfl (de_int ⟨_, _, rfl, rfl, rfl, _, rfl, fun _ => ?_⟩)))) ⟨rfl, ws, _, _, _, _, _, _, hg, rfl⟩) fun O1 r1 hv => ?_
  · refine ds_asg (de_slL (de_splitC (by decide +kernel) (by decide +kernel) ⟨_, rfl, do_none (do_some (de_var rfl ⟨many, rfl, ?_⟩))⟩))
    rw [plain_is, strs_names, cutD_to m0, namesD_take]
    exact ⟨rfl, _, _, _, _, _, _, _, plain_good.take (by omega), rfl⟩
  obtain ⟨rfl, ws, s7, s9, s10, s11, s12, s13, hg, rfl⟩ := hv
  -- form 5
  refine ds_mid (WorI g many form at_ turn core) (ds_ifN (dt_test (de_eq (de_var rfl (de_int ⟨_, _, rfl, rfl, rfl, _, rfl, fun _ => ?_⟩)))) ⟨rfl, ws, _, _, _, _, _, _, hg, rfl⟩) fun O1 r1 hv => ?_
  · refine ds_seq (ds_par (da_cons (de_ixS (de_var rfl (de_var rfl ⟨alpha, turn, _, rfl, rfl, by decide, alpha_at t0 t1, da_cons (de_ixS (de_var rfl (de_intC (C := fun x j => 0 < j) (g := fun i j => i % j) (de_intI (de_var rfl (de_int ⟨_, _, rfl, rfl, de_int ⟨_, _, rfl, rfl, by decide, alpha, _, _, rfl, rfl, by decide, alpha_at (by omega) (by omega), da_nil ⟨_, _, rfl, ?_⟩⟩⟩))))))⟩)))))
    have gp := pair_good turn.toNat (by omega)
    have e7 : ((turn + 7) % 26).toNat = (turn.toNat + 7) % 26 := by omega
    rw [e7]
    generalize 97 + turn.toNat = p at gp ⊢
    generalize 97 + (turn.toNat + 7) % 26 = q at gp ⊢
    have add2 : ∀ {a b : List Nat}, a.length ≤ 3 → b.length ≤ 3 → a.length + b.length ≤ sizeLine := fun ha hb => Nat.le_trans (by omega : _ ≤ 6) (by decide)
    refine ds_asg (de_slL (de_lst (da_cons (de_var rfl (da_cons (de_var rfl (da_cons (de_addS (de_var rfl (de_var rfl ⟨[p], [q], rfl, rfl, add2 (Nat.le_of_ble_eq_true rfl) (Nat.le_of_ble_eq_true rfl), ?_⟩))))))))))
    refine da_cons (de_addS (de_var rfl (de_var rfl ⟨[q], [p], rfl, rfl, add2 (Nat.le_of_ble_eq_true rfl) (Nat.le_of_ble_eq_true rfl), ?_⟩)))
    refine da_cons (de_addS (de_var rfl (de_var rfl ⟨[p], [p], rfl, rfl, add2 (Nat.le_of_ble_eq_true rfl) (Nat.le_of_ble_eq_true rfl), ?_⟩)))
    refine da_cons (de_addS (de_addS (de_var rfl (de_var rfl ⟨[p], [p], rfl, rfl, add2 (Nat.le_of_ble_eq_true rfl) (Nat.le_of_ble_eq_true rfl), de_var rfl ⟨_, [q], rfl, rfl, add2 (Nat.le_of_ble_eq_true rfl) (Nat.le_of_ble_eq_true rfl), ?_⟩⟩))))
    refine da_cons (de_addS (de_addS (de_var rfl (de_var rfl ⟨[p], [q], rfl, rfl, add2 (Nat.le_of_ble_eq_true rfl) (Nat.le_of_ble_eq_true rfl), de_var rfl ⟨_, [p], rfl, rfl, add2 (Nat.le_of_ble_eq_true rfl) (Nat.le_of_ble_eq_true rfl), ?_⟩⟩))))
    refine da_cons (de_addS (de_var rfl (de_var rfl ⟨[q], [q], rfl, rfl, add2 (Nat.le_of_ble_eq_true rfl) (Nat.le_of_ble_eq_true rfl), da_nil ⟨by show 8 ≤ sizeLine; decide, _, rfl, do_none (do_some (de_var rfl ⟨many, rfl, ?_⟩))⟩⟩)))
    rw [cutD_to m0]
    exact ⟨rfl, (pairW p q).take many.toNat, s7, s9, s10, .d (.str (tx [p])), .d (.str (tx [q])), s13, gp.take (by omega), by rw [← namesD_take]; rfl⟩
  obtain ⟨rfl, ws, s7, s9, s10, s11, s12, s13, hg, rfl⟩ := hv
  refine ds_ret (de_call g h0 hI (da_cons (de_var rfl (da_cons (de_var rfl (da_nil ⟨⟨_, namesD ws, rfl, .inl rfl, ?_⟩, fun d hd => ?_⟩))))))
  · rw [namesD_len, hg.1]
    omega
  · obtain ⟨xs, ys, hx, rfl, hp⟩ := hd
    rcases hx with hx | hx
    · cases hx
      obtain ⟨us, rfl, pu⟩ := names_perm hp
      exact ⟨many, us, rfl, rfl, hg.perm pu⟩
    · cases hx
end
end Dw

/-! Dw10: lists turned round, not in, three lists of one's own at once, the top of one list put on another. -/
namespace Dw
open PySem PySem.Spec PyProof.Rows L2
section
variable {M : Md} {O : List Addr} {r : List Sl} {σ : L2.St} {H : Hp} {k : D → Prop} {te ta tb : TE} {E : Kn}
theorem de_revL (h : De M te O r fun x => ∃ xs, x = .lst xs ∧ k (.lst xs.reverse)) : De M (tRevL M.K te) O r k := fun σ H Q R z => h σ H _ R fun v H1 x R1 e1 p1 q => by
  obtain ⟨xs, rfl, q⟩ := q
  obtain ⟨a, vs, rfl, h1, h2⟩ := p1
  exact ⟨a, vs, rfl, h1.sq, fun p hp => z _ _ (.lst xs.reverse) (R1.grow (sm_new hp)) (e1.trans (sm_0 (sm_new hp))) (rep_lst R1 hp h2.reverse) q⟩
theorem de_ninS (h : De M ta O r fun x => De M tb O r fun y => ∃ (s : Str) (ss : List Str), x = .str s ∧ (y = .lst (ss.map D.str) ∨ y = .tup (ss.map D.str)) ∧ k (.bl (!decide (s ∈ ss)))) : De M (tOp (rIn M.K true) ta tb) O r k := de_op2 h fun x y c σ H v u Q R pv pu z => by
  obtain ⟨s, ss, rfl, hy, q⟩ := c
  obtain rfl : v = .str s := pv
  have seq : ∃ a, u = .ref a ∧ (SqL M.K H a (ss.map V.str) ∨ SqT M.K H a (ss.map V.str)) := by
    rcases hy with rfl | rfl
    · obtain ⟨a, vs, rfl, h1, h2⟩ := pu
      have ev := repL_strs_of h2
      subst ev
      exact ⟨a, rfl, .inl h1.sq⟩
    · obtain ⟨a, vs, rfl, h1, h2⟩ := pu
      have ev := repL_strs_of h2
      subst ev
      exact ⟨a, rfl, .inr h1.sq⟩
  obtain ⟨a, rfl, hs⟩ := seq
  refine ⟨a, _, rfl, hs, rfl, all_flat ss, ?_⟩
  rw [if_pos rfl, in_strs]
  exact z _ H (.bl _) R .refl rfl q
/-- b.append((c, a.pop())) -/
theorem ds_appendTop {i j : Nat} {p q : Addr} {xs ys : List D} {x : D} {c : Str} (hi : r[i]? = some (.mu p (xs ++ [x]))) (hj : r[j]? = some (.mu q ys)) (hij : i ≠ j) (hz : ys.length < sizeLine)
    (h : E.nx O ((r.set i (.mu p xs)).set j (.mu q (ys ++ [.tup [.str c, x]])))) :
    DS M (tDrop (tBM M.K "list" rAppend (tVar j) (tCons (tTup (tCons (tC (.str c)) (tCons (tBM0 M.K "list" rPop (tVar i)) tNil))) tNil))) O r E := fun σ H Z R z => by
  obtain ⟨e1, hp, vs, h1, h2⟩ := R.slot i _ hi
  obtain ⟨f1, hq, ws, g1, g2⟩ := R.slot j _ hj
  have npq : q ≠ p := fun e => by
    subst e
    exact hij (R.one i j q _ ys hi hj)
  have hl := h2.length
  rw [List.length_append, List.length_singleton] at hl
  obtain ⟨y, y1, y2⟩ := h2.get (i := xs.length) (d := x) (by simp)
  have d2 : RepL M.K (nf M O) H xs vs.dropLast := by
    have t := h2.take xs.length
    rw [List.take_left' rfl] at t
    rw [List.dropLast_eq_take, ← hl, Nat.add_sub_cancel]
    exact t
  refine ⟨.ref q, f1, .inl ⟨rfl, ws, .inl (.inl g1)⟩, ?_⟩
  refine ⟨.ref p, e1, .inl ⟨rfl, vs, .inl (.inl h1)⟩, ?_⟩
  refine ⟨p, vs, y, rfl, rfl, h1, by rw [← hl, Nat.add_sub_cancel]; exact y1, ?_⟩
  have R2 := R.write hi d2
  have hj2 : (r.set i (.mu p xs))[j]? = some (.mu q ys) := by rw [List.getElem?_set_ne hij]; exact hj
  have sm : Sm (nf M O) H (upd H p (.lst vs.dropLast)) := fun a o na e => by
    rw [upd_ne fun z => na (.inr (by rw [z]; exact hp))]
    exact e
  refine ⟨by show 2 ≤ sizeLine; decide, fun t ht => ?_⟩
  have R3 := R2.grow (sm_new (o := .tup [.str c, y]) ht)
  obtain ⟨_, _, ws3, g3, g4⟩ := R3.slot j _ hj2
  refine ⟨q, ws3, .ref t, rfl, rfl, g3, by rw [← g4.length]; exact hz, ?_⟩
  have ry : RepL M.K (nf M O) (upd H p (.lst vs.dropLast)) [.str c, x] [.str c, y] := .cons rfl (.one (y2.mono sm))
  have R4 := R3.write hj2 (g4.append (.one (rep_tup R2 ht ry)))
  have s1 : Stp M O H O (upd H p (.lst vs.dropLast)) := stp_write R hi .refl
  have s2 : Stp M O (upd H p (.lst vs.dropLast)) O (upd (upd (upd H p (.lst vs.dropLast)) t (.tup [.str c, y])) q (.lst (ws3 ++ [.ref t]))) := stp_write (ws := ws3 ++ [.ref t]) R3 hj2 (sm_0 (sm_new ht))
  exact z.nx O _ σ _ R4 (Stp.trans R2.inv s1 s2) h
def noMu (r : List Sl) (p : Addr) : Prop := ∀ (j : Nat) (ys : List D), r[j]? = some (.mu p ys) → False
theorem noMu.set {p q : Addr} {i : Nat} {zs : List D} (h : noMu r p) (n : p ≠ q) : noMu (r.set i (.mu q zs)) p := fun j ys hj => by
  by_cases e : i = j
  · subst e
    by_cases hi : i < r.length
    · rw [List.getElem?_set_self hi] at hj
      cases hj
      exact n rfl
    · rw [List.getElem?_eq_none (by rw [List.length_set]; omega)] at hj
      cases hj
  · rw [List.getElem?_set_ne e] at hj
    exact h j ys hj
theorem noMu.out (R : Rp M O r σ H) {p : Addr} (n : p ∉ O) : noMu r p := fun j ys hj => n (R.slot j _ hj).2.1
theorem Rp.setMu {p : Addr} {i : Nat} {xs : List D} {vs : List V} (R : Rp M O r σ H) (hp : p ∈ O) (hH : H p = some (.lst vs)) (hr : RepL M.K (nf M O) H xs vs) (n : noMu r p) : Rp M O (r.set i (.mu p xs)) (σ.set i (some (.ref p))) H :=
  R.set (i := i) (v := .ref p) (s := .mu p xs) ⟨rfl, hp, vs, hH, hr⟩ fun l zs e j ys hj hy => by
    cases e
    exact (n _ _ hy).elim
/-- a, b, c, d = [], [], [], e -/
theorem ds_own3 {i j l m : Nat} (h : ∀ p q s, p ∉ O → q ∉ O → s ∉ O → p ≠ q → p ≠ s → q ≠ s → De M te (s :: q :: p :: O) r fun d => E.nx (s :: q :: p :: O) ((((r.set i (.mu p [])).set j (.mu q [])).set l (.mu s [])).set m (.d d))) :
    DS M (tAsg (tTup (tCons (tLst tNil) (tCons (tLst tNil) (tCons (tLst tNil) (tCons te tNil))))) (gTup M.K 4 (gCons (gName i) (gCons (gName j) (gCons (gName l) (gCons (gName m) gNil)))))) O r E := fun σ H Z R z => by
  refine ⟨Nat.zero_le _, fun p hp => ⟨Nat.zero_le _, fun q hq => ⟨Nat.zero_le _, fun s hs => ?_⟩⟩⟩
  have npq : p ≠ q := fun e => by
    rw [e, upd_same] at hq
    cases hq
  have nqs : q ≠ s := fun e => by
    rw [e, upd_same] at hs
    cases hs
  have hs1 : upd H p (.lst []) s = none := by
    rw [upd_ne nqs.symm] at hs
    exact hs
  have nps : p ≠ s := fun e => by
    rw [e, upd_same] at hs1
    cases hs1
  have pO : p ∉ O := fun y => (R.own p y).2 hp
  have qO : q ∉ O := fun y => (R.own q y).2 (by rw [upd_ne npq.symm] at hq; exact hq)
  have sO : s ∉ O := fun y => (R.own s y).2 (by rw [upd_ne nps.symm] at hs1; exact hs1)
  have Ra := R.own1 (o := .lst []) hp
  have Rb := Ra.own1 (o := .lst []) hq
  have Rc := Rb.own1 (o := .lst []) hs
  have s1 : Stp M O H (p :: O) (upd H p (.lst [])) := stp_new R .refl hp
  have s2 : Stp M (p :: O) (upd H p (.lst [])) (q :: p :: O) (upd (upd H p (.lst [])) q (.lst [])) := stp_new Ra .refl hq
  have s3 : Stp M (q :: p :: O) (upd (upd H p (.lst [])) q (.lst [])) (s :: q :: p :: O) (upd (upd (upd H p (.lst [])) q (.lst [])) s (.lst [])) := stp_new Rb .refl hs
  refine h p q s pO qO sO npq nps nqs σ _ _ Rc fun v H1 d R1 e1 p1 q1 => ⟨by show 4 ≤ sizeLine; decide, fun t ht => ?_⟩
  have R2 := R1.grow (sm_new (o := .tup [.ref p, .ref q, .ref s, v]) ht)
  have stay : ∀ a, a ∈ s :: q :: p :: O → ∀ o, (upd (upd (upd H p (.lst [])) q (.lst [])) s (.lst [])) a = some o → (upd H1 t (.tup [.ref p, .ref q, .ref s, v])) a = some o := fun a ha o e => by
    have z1 := e1 a o (fun f => M.tr a (M.f0 a f) (Rc.own a ha).1) e
    rw [upd_ne (ne_of_none z1 ht)]
    exact z1
  have hp3 := stay p (by simp) (.lst []) (by rw [upd_ne nps, upd_ne npq, upd_same])
  have hq3 := stay q (by simp) (.lst []) (by rw [upd_ne nqs, upd_same])
  have hs3 := stay s (by simp) (.lst []) upd_same
  have n0 : ∀ a, a ∉ O → noMu r a := fun a na => noMu.out R na
  have Rd := ((R2.setMu (i := i) (p := p) (xs := []) (by simp) hp3 .nil (n0 p pO)).setMu (i := j) (p := q) (xs := []) (by simp) hq3 .nil ((n0 q qO).set npq.symm)).setMu (i := l) (p := s) (xs := []) (by simp) hs3 .nil (((n0 s sO).set nps.symm).set nqs.symm)
  have Re := Rd.set (i := m) (v := v) (s := .d d) ⟨v, rfl, p1.mono (sm_0 (sm_new ht))⟩ (fun p xs e => nomatch e)
  have sq : SqT M.K (upd H1 t (.tup [.ref p, .ref q, .ref s, v])) t [.ref p, .ref q, .ref s, v] := .inl (.inl upd_same)
  refine ⟨t, _, rfl, sq, rfl, _, _, rfl, _, _, rfl, _, _, rfl, _, _, rfl, rfl, ?_⟩
  have s4 : Stp M (s :: q :: p :: O) (upd (upd (upd H p (.lst [])) q (.lst [])) s (.lst [])) (s :: q :: p :: O) (upd H1 t (.tup [.ref p, .ref q, .ref s, v])) := R2.stp (e1.trans (sm_0 (sm_new ht)))
  exact z.nx _ _ _ _ Re (Stp.trans Rc.inv (Stp.trans Rb.inv (Stp.trans Ra.inv s1 s2) s3) s4) q1
end
end Dw

/-! Deeds: scripts of puts, takes, props and unprops; how deep they go, and what leads back. Plain Lean, nothing of the layer. -/
namespace Dw
inductive Deed (α : Type) where
  | put (n : α)
  | take (n : α)
  | prop (n : α)
  | unprop
section
variable {α : Type}
/-- the props that stand behind a deed (the last one first) -/
def goes : List α → Deed α → Option (List α)
  | st, .put _ => some st
  | st, .take _ => some st
  | st, .prop n => some (n :: st)
  | _ :: st, .unprop => some st
  | [], .unprop => none
/-- what undoes a deed that is done while st stands -/
def undo : List α → Deed α → Deed α
  | _, .put n => .take n
  | _, .take n => .put n
  | _, .prop _ => .unprop
  | n :: _, .unprop => .prop n
  | [], .unprop => .unprop
def runs : List α → List (Deed α) → Option (List α)
  | st, [] => some st
  | st, d :: ds => (goes st d).bind fun s => runs s ds
def undos : List α → List (Deed α) → List (Deed α)
  | _, [] => []
  | st, d :: ds => undo st d :: match goes st d with
    | some s => undos s ds
    | none => []
/-- no name is propped while it is propped -/
def may : List α → Deed α → Prop
  | st, .prop n => n ∉ st
  | _, .put _ => True
  | _, .take _ => True
  | _, .unprop => True
def fresh : List α → List (Deed α) → Prop
  | _, [] => True
  | st, d :: ds => may st d ∧ match goes st d with
    | some s => fresh s ds
    | none => True
/-- the most props at a time -/
def deep : List α → List (Deed α) → Nat
  | st, [] => st.length
  | st, d :: ds => max st.length (match goes st d with
    | some s => deep s ds
    | none => 0)
theorem undos_cons {st s : List α} {d : Deed α} (ds : List (Deed α)) (e : goes st d = some s) : undos st (d :: ds) = undo st d :: undos s ds := by
  show undo st d :: _ = _
  rw [e]
theorem deep_cons {st s : List α} {d : Deed α} (ds : List (Deed α)) (e : goes st d = some s) : deep st (d :: ds) = max st.length (deep s ds) := by
  show max st.length _ = _
  rw [e]
theorem runs_app : ∀ (as bs : List (Deed α)) (st : List α), runs st (as ++ bs) = (runs st as).bind fun s => runs s bs
  | [], bs, st => rfl
  | d :: as, bs, st => by
    show ((goes st d).bind fun s => runs s (as ++ bs)) = ((goes st d).bind fun s => runs s as).bind fun s => runs s bs
    cases e : goes st d with
    | none => rfl
    | some s => exact runs_app as bs s
theorem undos_app : ∀ (as bs : List (Deed α)) (st s : List α), runs st as = some s → undos st (as ++ bs) = undos st as ++ undos s bs
  | [], bs, st, s, h => by
    cases h
    rfl
  | d :: as, bs, st, s, h => by
    have h2 : ((goes st d).bind fun s => runs s as) = some s := h
    cases e : goes st d with
    | none =>
      rw [e] at h2
      cases h2
    | some s1 =>
      rw [e] at h2
      rw [List.cons_append, undos_cons _ e, undos_cons _ e, undos_app as bs s1 s h2, List.cons_append]
theorem deep_app : ∀ (as bs : List (Deed α)) (st s : List α), runs st as = some s → deep st (as ++ bs) = max (deep st as) (deep s bs)
  | [], bs, st, s, h => by
    cases h
    show deep st bs = max st.length (deep st bs)
    cases bs with
    | nil => exact (Nat.max_self _).symm
    | cons b bs =>
      show max st.length _ = max st.length (max st.length _)
      rw [← Nat.max_assoc, Nat.max_self]
  | d :: as, bs, st, s, h => by
    have h2 : ((goes st d).bind fun s => runs s as) = some s := h
    cases e : goes st d with
    | none =>
      rw [e] at h2
      cases h2
    | some s1 =>
      rw [e] at h2
      rw [List.cons_append, deep_cons _ e, deep_cons _ e, deep_app as bs s1 s h2, Nat.max_assoc]
theorem deep_start (st : List α) (ds : List (Deed α)) : st.length ≤ deep st ds := by
  cases ds with
  | nil => exact Nat.le_refl _
  | cons d ds => exact Nat.le_max_left _ _
theorem deep_end : ∀ (ds : List (Deed α)) (st s : List α), runs st ds = some s → s.length ≤ deep st ds
  | [], st, s, h => by
    cases h
    exact Nat.le_refl _
  | d :: ds, st, s, h => by
    have h2 : ((goes st d).bind fun s => runs s ds) = some s := h
    show s.length ≤ max st.length _
    cases e : goes st d with
    | none =>
      rw [e] at h2
      cases h2
    | some s1 =>
      rw [e] at h2
      exact Nat.le_trans (deep_end ds s1 s h2) (Nat.le_max_right _ _)
theorem fresh_app : ∀ (as bs : List (Deed α)) (st s : List α), runs st as = some s → (fresh st (as ++ bs) ↔ fresh st as ∧ fresh s bs)
  | [], bs, st, s, h => by
    cases h
    exact ⟨fun z => ⟨trivial, z⟩, fun z => z.2⟩
  | d :: as, bs, st, s, h => by
    have h2 : ((goes st d).bind fun s => runs s as) = some s := h
    cases e : goes st d with
    | none =>
      rw [e] at h2
      cases h2
    | some s1 =>
      rw [e] at h2
      have ih := fresh_app as bs s1 s h2
      have eq : ∀ l, fresh st (d :: l) ↔ may st d ∧ fresh s1 l := fun l => by
        show (_ ∧ _) ↔ _
        rw [e]
      rw [List.cons_append, eq, eq, ih, and_assoc]
/-- a deed and what undoes it -/
theorem undo_goes {st s : List α} {d : Deed α} (h : goes st d = some s) : goes s (undo st d) = some st ∧ undo s (undo st d) = d := by
  cases d with
  | put n =>
    cases h
    exact ⟨rfl, rfl⟩
  | take n =>
    cases h
    exact ⟨rfl, rfl⟩
  | prop n =>
    cases h
    exact ⟨rfl, rfl⟩
  | unprop =>
    cases st with
    | nil => cases h
    | cons n st =>
      cases h
      exact ⟨rfl, rfl⟩
/-- the way back: it is a script, it leads back, it is as deep, and its own way back is the way there -/
theorem back_ok : ∀ (ds : List (Deed α)) (st s : List α), runs st ds = some s →
    runs s (undos st ds).reverse = some st ∧ (undos s (undos st ds).reverse).reverse = ds ∧ deep s (undos st ds).reverse = deep st ds
  | [], st, s, h => by
    cases h
    exact ⟨rfl, rfl, rfl⟩
  | d :: ds, st, s, h => by
    have h2 : ((goes st d).bind fun s => runs s ds) = some s := h
    cases e : goes st d with
    | none =>
      rw [e] at h2
      cases h2
    | some s1 =>
      rw [e] at h2
      obtain ⟨i1, i2, i3⟩ := back_ok ds s1 s h2
      obtain ⟨g1, g2⟩ := undo_goes e
      have eu : undos st (d :: ds) = undo st d :: undos s1 ds := by
        show undo st d :: _ = _
        rw [e]
      have ed : deep st (d :: ds) = max st.length (deep s1 ds) := by
        show max st.length _ = _
        rw [e]
      rw [eu, List.reverse_cons, ed]
      have r1 : runs s1 [undo st d] = some st := by
        show ((goes s1 (undo st d)).bind fun s => runs s []) = some st
        rw [g1]
        rfl
      refine ⟨by rw [runs_app, i1]; exact r1, ?_, ?_⟩
      · rw [undos_app _ _ _ _ i1, List.reverse_append, i2]
        have : undos s1 [undo st d] = [d] := by
          show [undo s1 (undo st d)] ++ _ = _
          rw [g1, g2]
          rfl
        rw [this]
        rfl
      · rw [deep_app _ _ _ _ i1, i3]
        have : deep s1 [undo st d] = max s1.length st.length := by
          show max s1.length _ = _
          rw [g1]
          rfl
        rw [this]
        have := deep_start s1 ds
        omega
/-- no name is propped twice on the way back -/
theorem back_fresh : ∀ (ds : List (Deed α)) (st s : List α), runs st ds = some s → st.Nodup → fresh st ds → s.Nodup ∧ fresh s (undos st ds).reverse
  | [], st, s, h, hn, hf => by
    cases h
    exact ⟨hn, trivial⟩
  | d :: ds, st, s, h, hn, hf => by
    have h2 : ((goes st d).bind fun s => runs s ds) = some s := h
    cases e : goes st d with
    | none =>
      rw [e] at h2
      cases h2
    | some s1 =>
      rw [e] at h2
      obtain ⟨f1, f2⟩ := (show may st d ∧ (match goes st d with | some s => fresh s ds | none => True) from hf)
      rw [e] at f2
      have n1 : s1.Nodup ∧ fresh s1 [undo st d] := by
        cases d with
        | put n =>
          cases e
          exact ⟨hn, trivial, trivial⟩
        | take n =>
          cases e
          exact ⟨hn, trivial, trivial⟩
        | prop n =>
          cases e
          exact ⟨List.nodup_cons.mpr ⟨f1, hn⟩, trivial, trivial⟩
        | unprop =>
          cases st with
          | nil => cases e
          | cons n st =>
            cases e
            exact ⟨(List.nodup_cons.mp hn).2, (List.nodup_cons.mp hn).1, trivial⟩
      obtain ⟨i1, i2⟩ := back_fresh ds s1 s h2 n1.1 f2
      have eu : undos st (d :: ds) = undo st d :: undos s1 ds := by
        show undo st d :: _ = _
        rw [e]
      rw [eu, List.reverse_cons]
      exact ⟨i1, (fresh_app _ _ _ _ (back_ok ds s1 s h2).1).mpr ⟨i2, n1.2⟩⟩
end
end Dw

/-! L28a: a script, the reverse of it, and its depth. -/
namespace Dw
open PySem PySem.Spec PyProof.Rows L2
local macro_rules | `(tactic| walk_at "dw") => `(tactic| first
  | refine de_var rfl ?_ | refine de_int ?_ | refine de_str ?_ | refine de_bl ?_ | refine de_non ?_
  | refine de_intI ?_ | refine de_intB ?_ | refine de_intC ?_ | refine de_eq ?_ | refine de_ne ?_
  | refine da_nil ?_ | refine da_cons ?_ | refine de_max2 ?_ | refine do_none ?_ | refine do_some ?_ | refine dt_test ?_ | refine dt_B ?_ | refine dt_yes ?_
  | refine ⟨_, _, rfl, rfl, ?_⟩ | refine ⟨_, rfl, ?_⟩)
abbrev Dd := Deed (List Nat)
def deedD : Dd → D
  | .put n => .tup [.str "put", .str (tx n)]
  | .take n => .tup [.str "take", .str (tx n)]
  | .prop n => .tup [.str "prop", .str (tx n)]
  | .unprop => .tup [.str "unprop"]
def deedOk : Dd → Prop
  | .put n => Name n
  | .take n => Name n
  | .prop n => Name n
  | .unprop => True
abbrev deedsD (ds : List Dd) : List D := ds.map deedD
abbrev nDra : List Str := ["_law_deal_here", "_law_names", "_law_found", "_law_back", "_law_stack", "_law_most", "_law_turn", "_law_form", "_law_name"]
theorem scDra : FnScope nDra ["_law_deal_here", "_law_names"] (defScope sDra) := ⟨rfl, rfl, rfl, by decide +kernel, rfl, by decide +kernel, by decide +kernel⟩
def preDra (g : Addr × Addr) (ds : List D) : Prop := ∃ ws : List (List Nat), ds = [.ref g.1, .lst (namesD ws)] ∧ 1 ≤ ws.length ∧ ws.length ≤ 8 ∧ ∀ w ∈ ws, Name w
/-- a whole script: its names are names, no part is propped twice, no prop is left -/
structure Whole (ds : List Dd) : Prop where
  ok : ∀ d ∈ ds, deedOk d
  runs : runs [] ds = some []
  fresh : fresh [] ds
  len : ds.length ≤ 60
def postDra (_ : Addr × Addr) (_ : List D) (d : D) : Prop := ∃ ds : List Dd, Whole ds ∧ d = .tup [.lst (deedsD ds), .tup (deedsD (undos [] ds).reverse), .int (deep [] ds)]
/-- an unfinished one: st stands -/
structure Part (ds : List Dd) (st : List (List Nat)) : Prop where
  ok : ∀ d ∈ ds, deedOk d
  runs : Dw.runs [] ds = some st
  fresh : Dw.fresh [] ds
  names : ∀ w ∈ st, Name w
/-- the slots of the def -/
def draR (g : Addr × Addr) (ws : List (List Nat)) (p q s : Addr) (ds : List Dd) (st : List (List Nat)) (x6 x7 x8 : Sl) (most : Nat) : List Sl :=
  [.d (.ref g.1), .d (.lst (namesD ws)), .mu p (deedsD ds), .mu q (deedsD (undos [] ds)), .mu s (namesD st.reverse), .d (.int most), x6, x7, x8]
theorem ok_name {w : List Nat} (h : Name w) : D.ok 0 70 (.str (tx w)) := by
  refine ⟨?_, Nat.le_refl _, ?_⟩
  · show PyData.strOk (tx w) = true
    show (tx w).cps.all (· < 0x110000) = true
    rw [Array.all_eq_true']
    intro c hc
    have := h.1 c (by simpa [tx] using hc)
    exact decide_eq_true (by omega)
  · show (reprText (tx w)).length ≤ 70
    refine Nat.le_trans (PySem.StrLaws.reprText_len (tx w) fun c hc => ?_) ?_
    · have := h.1 c (by simpa [tx] using hc)
      omega
    · rw [tx_len]
      have := h.2.2.1
      omega
theorem names_flat {ws : List (List Nat)} (h : ∀ w ∈ ws, Name w) : (D.lst (namesD ws)).pl = true ∧ (D.lst (namesD ws)).py.depth ≤ 64 := by
  have k : ∀ d ∈ namesD ws, D.ok 0 70 d := fun d hd => by
    obtain ⟨w, hw, rfl⟩ := List.mem_map.mp hd
    exact ok_name (h w hw)
  have z := ok_lst (L := (namesD ws).length) k (Nat.le_refl _)
  exact ⟨z.1, Nat.le_trans z.2.1 (by decide)⟩
theorem eqv_nil (ws : List (List Nat)) : PyData.eqv (D.lst (namesD ws)).py (D.lst []).py = ws.isEmpty := by
  cases ws <;> rfl
theorem Part.snoc {ds : List Dd} {st st' : List (List Nat)} {d : Dd} (h : Part ds st) (g : goes st d = some st') (m : may st d) (o : deedOk d) (n : ∀ w ∈ st', Name w) :
    Part (ds ++ [d]) st' ∧ deedsD (ds ++ [d]) = deedsD ds ++ [deedD d] ∧ deedsD (undos [] (ds ++ [d])) = deedsD (undos [] ds) ++ [deedD (undo st d)] ∧ deep [] (ds ++ [d]) = max (deep [] ds) st'.length := by
  have r1 : Dw.runs st [d] = some st' := by
    show ((goes st d).bind fun s => Dw.runs s []) = _
    rw [g]
    rfl
  have u1 : undos st [d] = [undo st d] := by
    rw [undos_cons _ g]
    rfl
  have d1 : deep st [d] = max st.length st'.length := by
    rw [deep_cons _ g]
    rfl
  have f1 : Dw.fresh st [d] := by
    refine ⟨m, ?_⟩
    rw [g]
    trivial
  refine ⟨⟨fun x hx => ?_, by rw [runs_app, h.runs]; exact r1, (fresh_app _ _ _ _ h.runs).mpr ⟨h.fresh, f1⟩, n⟩, by simp [deedsD], by rw [undos_app _ _ _ _ h.runs, u1]; simp [deedsD], ?_⟩
  · rcases List.mem_append.mp hx with hx | hx
    · exact h.ok x hx
    · rw [List.mem_singleton.mp hx]
      exact o
  · rw [deep_app _ _ _ _ h.runs, d1]
    have := deep_end ds [] st h.runs
    omega
theorem ds_ifE {M : Md} {O : List Addr} {r : List Sl} {tt : TT} {ts tz : TS} {E : Kn} (h : DT M tt O r fun b => b = true → DS M ts O r E) (n : DS M tz O r E) : DS M (tIfS tt ts tz) O r E := ds_if (h.imp fun b hb => by
  cases b with
  | true => exact hb rfl
  | false => exact n)
section
variable {P : Program} {w : World} {K : PySem.W.Frag} {mg : Str → Option Value} {base : Heap}
theorem ok_dra {f fD : Addr} {fd fdD : FuncData} {k : Nat} (F : Fun K "_law_drawn" "_law_drawn" sDra f fd) (FD : FnOk P w K mg base CX0 k fD fdD ["_law_deal_here", "_law_many"] (spDraw K)) (gD : mg "_law_draw" = some (.ref fD)) (kD : PySem.W.keepIn K (.ref fD) = true) (bD : Binds K fdD ["_law_deal_here", "_law_many"] [])
    (mR : mg "range" = none) (mN : mg "len" = none) (mM : mg "max" = none) (mT : mg "tuple" = none) : FnOk P w K mg base CX0 (k + 1) f fd ["_law_deal_here", "_law_names"] (SpD K dealS preDra postDra) := by
  refine fn_dw (S := dealS) F scDra (fun g ds ⟨ws, e, _⟩ => by rw [e]; rfl) fun cdv A outer s H E g ds F1 f0 tr hr pre => ?_
  have h0 : (mdOf K dealS g H F1 f0 tr).F0 = dealS.F0 g := rfl
  have hI : (mdOf K dealS g H F1 f0 tr).I = dealS.I g := rfl
  have hu := hr.units
  refine ⟨_, (pss_cons (ps_asg (pe_tup (pa_cons (pe_lst pa_nil) (pa_cons (pe_lst pa_nil) (pa_cons (pe_lst pa_nil) (pa_cons pe_int pa_nil))))) (pg_tup rfl (pgs_cons (pg_name (i := 2) scDra.nd rfl (Or.inl rfl)) (pgs_cons (pg_name (i := 3) scDra.nd rfl (Or.inl rfl)) (pgs_cons (pg_name (i := 4) scDra.nd rfl (Or.inl rfl)) (pgs_cons (pg_name (i := 5) scDra.nd rfl (Or.inl rfl)) pgs_nil)))))) (pss_cons (ps_for PassesOwn.never rfl (pi_range1 (by rfl) mR (pa_cons (pe_ix ix_list (pe_lst (pa_cons pe_int (pa_cons pe_int (pa_cons pe_int pa_nil)))) (pe_call FD hr (by rfl) gD kD bD .nil pass0 (pa_cons (pv 0) (pa_cons pe_int pa_nil))) (fun _ _ => rfl)) pa_nil)) (pg_name (i := 6) scDra.nd rfl (Or.inl rfl)) (pss_cons (ps_par (i := 7) (j := 8) rfl scDra.nd rfl rfl (by decide) rfl rfl (pa_cons (pe_call FD hr (by rfl) gD kD bD .nil pass0 (pa_cons (pv 0) (pa_cons pe_int pa_nil))) (pa_cons (pe_ix ix_list (pv 1) (pe_call FD hr (by rfl) gD kD bD .nil pass0 (pa_cons (pv 0) (pa_cons (pe_callB call_len_seq (by rfl) mN PySem.boot_len (pa_cons (pv 1) pa_nil)) pa_nil))) (fun _ _ => rfl)) pa_nil)) (by rfl)) (pss_cons (ps_if (pt_cmpR op_lt (pv 7) pe_int (nomark _)) (pss_cons (ps_expr (pe_bm PySem.F.plainAttrs_list PySem.F.slot_list_append PySem.F.type_list_append mt_append (pv 2) (pa_cons (pe_tup (pa_cons (pe_ix ix_list (pe_lst (pa_cons pe_str (pa_cons pe_str pa_nil))) (pv 7) (fun _ _ => rfl)) (pa_cons (pv 8) pa_nil))) pa_nil))) (pss_one (ps_expr (pe_bm PySem.F.plainAttrs_list PySem.F.slot_list_append PySem.F.type_list_append mt_append (pv 3) (pa_cons (pe_tup (pa_cons (pe_ix ix_list (pe_lst (pa_cons pe_str (pa_cons pe_str pa_nil))) (pv 7) (fun _ _ => rfl)) (pa_cons (pv 8) pa_nil))) pa_nil))))) (pss_one (ps_if (PW.pt (pw_and (pt_cmpR op_lt (pv 7) pe_int (nomark _)) (pw_and1 (pt_cmpR op_notIn_seq (pv 8) (pv 4) (by rfl))))) (pss_cons (ps_expr (pe_bm PySem.F.plainAttrs_list PySem.F.slot_list_append PySem.F.type_list_append mt_append (pv 4) (pa_cons (pv 8) pa_nil))) (pss_cons (ps_expr (pe_bm PySem.F.plainAttrs_list PySem.F.slot_list_append PySem.F.type_list_append mt_append (pv 2) (pa_cons (pe_tup (pa_cons pe_str (pa_cons (pv 8) pa_nil))) pa_nil))) (pss_one (ps_expr (pe_bm PySem.F.plainAttrs_list PySem.F.slot_list_append PySem.F.type_list_append mt_append (pv 3) (pa_cons (pe_tup (pa_cons pe_str pa_nil)) pa_nil)))))) (pss_one (ps_if (pt_cmpR (op_neD hu) (pv 4) (pe_lst pa_nil) (nomark _)) (pss_cons (ps_expr (pe_bm PySem.F.plainAttrs_list PySem.F.slot_list_append PySem.F.type_list_append mt_append (pv 3) (pa_cons (pe_tup (pa_cons pe_str (pa_cons (pe_bm0 PySem.F.plainAttrs_list PySem.F.slot_list_pop PySem.F.type_list_pop mt_pop (pv 4)) pa_nil))) pa_nil))) (pss_one (ps_expr (pe_bm PySem.F.plainAttrs_list PySem.F.slot_list_append PySem.F.type_list_append mt_append (pv 2) (pa_cons (pe_tup (pa_cons pe_str pa_nil)) pa_nil))))) pss_nil))))) (pss_one (ps_set (i := 5) scDra.nd rfl (Or.inl rfl) (pe_callB (call_max2 rfl) (by rfl) mM (by decide +kernel) (pa_cons (pv 5) (pa_cons (pe_callB call_len_seq (by rfl) mN PySem.boot_len (pa_cons (pv 4) pa_nil)) pa_nil)))))))) (pss_cons (ps_while PassesOwn.never (pt_cmpR (op_neD hu) (pv 4) (pe_lst pa_nil) (nomark _)) (pss_cons (ps_expr (pe_bm PySem.F.plainAttrs_list PySem.F.slot_list_append PySem.F.type_list_append mt_append (pv 3) (pa_cons (pe_tup (pa_cons pe_str (pa_cons (pe_bm0 PySem.F.plainAttrs_list PySem.F.slot_list_pop PySem.F.type_list_pop mt_pop (pv 4)) pa_nil))) pa_nil))) (pss_one (ps_expr (pe_bm PySem.F.plainAttrs_list PySem.F.slot_list_append PySem.F.type_list_append mt_append (pv 2) (pa_cons (pe_tup (pa_cons pe_str pa_nil)) pa_nil)))))) (pss_one (ps_ret (pe_tup (pa_cons (pv 2) (pa_cons (pe_tupleOf (by rfl) mT (pe_revL (pv 3))) (pa_cons (pv 5) pa_nil))))))))), ?_⟩
  obtain ⟨ws, rfl, w1, w8, wn⟩ := pre
  refine ds_seq (ds_own3 fun p q s hp hq hs npq nps nqs => de_int ?_)
  have top : ∀ {st : List (List Nat)} {n : List Nat}, namesD (n :: st).reverse = namesD st.reverse ++ [.str (tx n)] := fun {st n} => by
    unfold namesD
    rw [List.reverse_cons, List.map_append]
    rfl
  have line : ∀ n : Nat, n ≤ 1000 → n < sizeLine := fun n h => Nat.lt_of_le_of_lt h (by decide)
  have dlen : ∀ ds : List Dd, (deedsD ds).length = ds.length := fun ds => List.length_map _
  have ulen : ∀ (ds : List Dd) (a b : List (List Nat)), Dw.runs a ds = some b → (undos a ds).length = ds.length := fun ds => by
    induction ds with
    | nil => exact fun a b _ => rfl
    | cons d ds ih =>
      intro a b h
      have h2 : ((goes a d).bind fun s => Dw.runs s ds) = some b := h
      cases e : goes a d with
      | none =>
        rw [e] at h2
        cases h2
      | some s1 =>
        rw [e] at h2
        rw [undos_cons _ e, List.length_cons, ih s1 b h2, List.length_cons]
  -- the turns
  refine ds_seq (ds_for (js := [6]) (di_range1 (da_cons (de_ixL (de_lst ?_)))))
  repeat walk_at "dw"
  refine ⟨by show 3 ≤ sizeLine; decide, de_draw (i := 0) h0 hI rfl (by decide) (by decide) fun v v0 v1 => ?_⟩
  have pick : ∃ m : Int, atI [D.int 4, D.int 12, D.int 30] v = some (.int m) ∧ 0 ≤ m ∧ m ≤ 30 := by
    have z : v = 0 ∨ v = 1 ∨ v = 2 := by omega
    rcases z with rfl | rfl | rfl <;> exact ⟨_, rfl, by decide, by decide⟩
  obtain ⟨m, pm, m0, m30⟩ := pick
  refine ⟨_, v, _, rfl, rfl, pm, da_nil ⟨m, rfl, ⟨by omega, by omega⟩, ?_⟩⟩
  refine ⟨fun i O r => O = [s, q, p] ∧ ∃ (ds : List Dd) (st : List (List Nat)) (x6 x7 x8 : Sl), Part ds st ∧ ds.length + st.length ≤ 2 * i ∧ r = draR g ws p q s ds st x6 x7 x8 (deep [] ds),
    ⟨rfl, [], [], .un, .un, .un, ⟨fun d h => (nomatch h), rfl, trivial, fun w h => (nomatch h)⟩, Nat.zero_le _, rfl⟩, fun i x O' r' hx hv => ?_, fun O' r' hv => ?_⟩
  · obtain ⟨rfl, ds, st, x6, x7, x8, hP, hb, rfl⟩ := hv
    obtain ⟨hi, rfl⟩ := rangeD_get hx
    have hlen : ds.length + st.length ≤ 1000 := by omega
    have l2 : (deedsD ds).length < sizeLine := line _ (by rw [dlen]; omega)
    have l3 : (deedsD (undos [] ds)).length < sizeLine := line _ (by rw [dlen, ulen _ _ _ hP.runs]; omega)
    have l4 : (namesD st.reverse).length < sizeLine := line _ (by rw [namesD_len, List.length_reverse]; omega)
    refine dg_name (ds_seq (ds_par (da_cons (de_draw (i := 0) h0 hI rfl (by decide) (by decide) fun form f0' f1' => ?_))))
    refine da_cons (de_ixL (de_var rfl (de_call g h0 hI (da_cons (de_var rfl (da_cons (de_len (de_var rfl ⟨_, .inl rfl, ?_⟩))))))))
    refine da_nil ⟨⟨_, rfl, by rw [namesD_len]; omega, by rw [namesD_len]; omega⟩, fun d ⟨n, j, e, ed, j0, j1⟩ => ?_⟩
    cases e
    subst ed
    rw [namesD_len] at j1
    obtain ⟨nm, en⟩ : ∃ nm, ws[j.toNat]? = some nm := ⟨_, List.getElem?_eq_getElem (by omega)⟩
    have hnm : Name nm := wn nm (List.mem_of_getElem? en)
    have at_ : atI (namesD ws) j = some (.str (tx nm)) := by
      have := atI_nat (xs := namesD ws) (k := j.toNat) (x := .str (tx nm)) (by unfold namesD; rw [List.getElem?_map, en]; rfl)
      rw [Int.zero_add, Int.toNat_of_nonneg j0] at this
      exact this
    refine ⟨_, j, _, rfl, rfl, at_, da_nil ⟨_, _, rfl, ?_⟩⟩
    show DS _ _ _ _ _
    refine ds_mid (fun O r => O = [s, q, p] ∧ ∃ (ds' : List Dd) (st' : List (List Nat)) (x6 x7 x8 : Sl) (mo : Nat), Part ds' st' ∧ ds'.length + st'.length ≤ 2 * (i + 1) ∧ max mo st'.length = deep [] ds' ∧ r = draR g ws p q s ds' st' x6 x7 x8 mo)
      (ds_if (dt_test (de_intB (de_var rfl (de_int ⟨_, _, rfl, rfl, _, rfl, ?_⟩))))) fun O1 r1 hv => ?_
    · by_cases hf : form < 2
      · rw [decide_eq_true hf, if_pos rfl]
        have z : form = 0 ∨ form = 1 := by omega
        rcases z with rfl | rfl
        · obtain ⟨P', e1, e2, e3⟩ := hP.snoc (d := .put nm) rfl trivial hnm hP.names
          refine ds_seq (ds_append (i := 2) rfl l2 (de_tup (da_cons (de_ixL (de_lst ?_)))))
          repeat walk_at "dw"
          refine ⟨by show 2 ≤ sizeLine; decide, de_var rfl ⟨_, 0, _, rfl, rfl, rfl, da_cons (de_var rfl (da_nil ⟨by show 2 ≤ sizeLine; decide, ?_⟩))⟩⟩
          refine ds_append (i := 3) rfl l3 (de_tup (da_cons (de_ixL (de_lst ?_))))
          repeat walk_at "dw"
          refine ⟨by show 2 ≤ sizeLine; decide, de_var rfl ⟨_, 0, _, rfl, rfl, rfl, da_cons (de_var rfl (da_nil ⟨by show 2 ≤ sizeLine; decide, ?_⟩))⟩⟩
          exact ⟨rfl, ds ++ [.put nm], st, _, _, _, deep [] ds, P', by rw [List.length_append, List.length_singleton]; omega, e3.symm, by unfold draR; rw [e1, e2]; rfl⟩
        · obtain ⟨P', e1, e2, e3⟩ := hP.snoc (d := .take nm) rfl trivial hnm hP.names
          refine ds_seq (ds_append (i := 2) rfl l2 (de_tup (da_cons (de_ixL (de_lst ?_)))))
          repeat walk_at "dw"
          refine ⟨by show 2 ≤ sizeLine; decide, de_var rfl ⟨_, 1, _, rfl, rfl, rfl, da_cons (de_var rfl (da_nil ⟨by show 2 ≤ sizeLine; decide, ?_⟩))⟩⟩
          refine ds_append (i := 3) rfl l3 (de_tup (da_cons (de_ixL (de_lst ?_))))
          repeat walk_at "dw"
          refine ⟨by show 2 ≤ sizeLine; decide, de_var rfl ⟨_, 1, _, rfl, rfl, rfl, da_cons (de_var rfl (da_nil ⟨by show 2 ≤ sizeLine; decide, ?_⟩))⟩⟩
          exact ⟨rfl, ds ++ [.take nm], st, _, _, _, deep [] ds, P', by rw [List.length_append, List.length_singleton]; omega, e3.symm, by unfold draR; rw [e1, e2]; rfl⟩
      · rw [decide_eq_false hf, if_neg Bool.false_ne_true]
        refine ds_ifE (dt_andN (dt_test (de_intB (de_var rfl (de_int ⟨_, _, rfl, rfl, _, rfl, fun _ => ?_⟩))))) ?_
        · refine dt_borrow 4 rfl (dt_test (de_ninS (de_var rfl (de_var rfl ⟨tx nm, st.reverse.map tx, rfl, .inl (congrArg D.lst (strs_names _).symm), _, rfl, fun hb2 => ?_⟩))))
          have nin : nm ∉ st := fun z => by
            have y : tx nm ∈ st.reverse.map tx := List.mem_map.mpr ⟨nm, List.mem_reverse.mpr z, rfl⟩
            rw [decide_eq_true y] at hb2
            cases hb2
          obtain ⟨P', e1, e2, e3⟩ := hP.snoc (d := .prop nm) rfl nin hnm (st' := nm :: st) fun w hw => (List.mem_cons.mp hw).elim (fun e => by rw [e]; exact hnm) (hP.names w)
          refine ds_seq (ds_append (i := 4) rfl l4 (de_var rfl ?_))
          refine ds_seq (ds_append (i := 2) rfl l2 (de_tup (da_cons (de_str (da_cons (de_var rfl (da_nil ⟨by show 2 ≤ sizeLine; decide, ?_⟩)))))))
          refine ds_append (i := 3) rfl l3 (de_tup (da_cons (de_str (da_nil ⟨by show 1 ≤ sizeLine; decide, ?_⟩))))
          exact ⟨rfl, ds ++ [.prop nm], nm :: st, _, _, _, deep [] ds, P', by rw [List.length_append, List.length_singleton, List.length_cons]; omega, e3.symm, by unfold draR; rw [e1, e2, top]; rfl⟩
        · refine ds_ifN (dt_borrow 4 rfl (dt_test (de_neD (de_var rfl (de_lst (da_nil ⟨Nat.zero_le _, names_flat (fun w hw => hP.names w (List.mem_reverse.mp hw)), ⟨rfl, by decide⟩, _, rfl, fun hb2 => ?_⟩)))))) ⟨rfl, ds, st, _, _, _, deep [] ds, hP, by omega, ?_, rfl⟩
          · rw [eqv_nil] at hb2
            cases st with
            | nil => cases hb2
            | cons n st0 =>
              obtain ⟨P', e1, e2, e3⟩ := hP.snoc (d := .unprop) (st' := st0) rfl trivial trivial fun w hw => hP.names w (List.mem_cons_of_mem _ hw)
              refine ds_seq (ds_appendTop (i := 4) (j := 3) (x := .str (tx n)) (xs := namesD st0.reverse) (congrArg (fun l => some (Sl.mu s l)) top) rfl (by decide) l3 ?_)
              refine ds_append (i := 2) rfl l2 (de_tup (da_cons (de_str (da_nil ⟨by show 1 ≤ sizeLine; decide, ?_⟩))))
              exact ⟨rfl, ds ++ [.unprop], st0, _, _, _, deep [] ds, P', by rw [List.length_append, List.length_singleton]; rw [List.length_cons] at hb; omega, e3.symm, by unfold draR; rw [e1, e2]; rfl⟩
          · have := deep_end ds [] st hP.runs
            omega
    · obtain ⟨rfl, ds', st', y6, y7, y8, mo, P', hb2, hm, rfl⟩ := hv
      refine ds_asg (de_max2 (de_var rfl (de_borrow 4 rfl (de_len (de_var rfl ⟨_, .inl rfl, rfl, _, _, rfl, rfl, ?_⟩)))))
      have em : (if ((namesD st'.reverse).length : Int) > (mo : Int) then ((namesD st'.reverse).length : Int) else (mo : Int)) = ((deep [] ds' : Nat) : Int) := by
        rw [namesD_len, List.length_reverse]
        split <;> omega
      rw [em]
      exact ⟨rfl, ds', st', _, _, _, P', hb2, rfl⟩
  · obtain ⟨rfl, ds, st, x6, x7, x8, hP, hb, rfl⟩ := hv
    rw [rangeD_len] at hb
    refine ds_seq (ds_while (fun O r => O = [s, q, p] ∧ ∃ (ds : List Dd) (st : List (List Nat)) (x6 x7 x8 : Sl), Part ds st ∧ ds.length + st.length ≤ 60 ∧ r = draR g ws p q s ds st x6 x7 x8 (deep [] ds)) (fun (r : List Sl) => match r[4]? with
      | some (Sl.mu _ xs) => xs.length
      | _ => 0) ⟨rfl, ds, st, _, _, _, hP, by omega, rfl⟩ fun O' r' hv => ?_)
    obtain ⟨rfl, ds, st, x6, x7, x8, hP, hb, rfl⟩ := hv
    refine dt_borrow 4 rfl (dt_test (de_neD (de_var rfl (de_lst (da_nil ⟨Nat.zero_le _, names_flat (fun w hw => hP.names w (List.mem_reverse.mp hw)), ⟨rfl, by decide⟩, _, rfl, ?_⟩)))))
    rw [eqv_nil]
    have l2 : (deedsD ds).length < sizeLine := line _ (by rw [dlen]; omega)
    have l3 : (deedsD (undos [] ds)).length < sizeLine := line _ (by rw [dlen, ulen _ _ _ hP.runs]; omega)
    cases st with
    | nil =>
      show DS _ _ _ _ _
      refine ds_freeze 2 rfl (ds_freeze 3 rfl (ds_ret (de_tup ?_)))
      refine da_cons (de_var rfl (da_cons (de_thenTup (de_revL (de_var rfl ⟨_, rfl, _, rfl, da_cons (de_var rfl (da_nil ⟨by show 3 ≤ sizeLine; decide, ds, ⟨hP.ok, hP.runs, hP.fresh, by rw [List.length_nil] at hb; omega⟩, ?_⟩))⟩)))))
      rw [← List.map_reverse]
    | cons n st0 =>
      have ne : (!((n :: st0).reverse).isEmpty) = true := by simp
      rw [ne, if_pos rfl]
      obtain ⟨P', e1, e2, e3⟩ := hP.snoc (d := .unprop) (st' := st0) rfl trivial trivial fun w hw => hP.names w (List.mem_cons_of_mem _ hw)
      rw [List.length_cons] at hb
      have e4 : deep [] (ds ++ [.unprop]) = deep [] ds := by
        have := deep_end ds [] _ hP.runs
        rw [List.length_cons] at this
        omega
      refine ds_seq (ds_appendTop (i := 4) (j := 3) (x := .str (tx n)) (xs := namesD st0.reverse) (congrArg (fun l => some (Sl.mu s l)) top) rfl (by decide) l3 ?_)
      refine ds_append (i := 2) rfl l2 (de_tup (da_cons (de_str (da_nil ⟨by show 1 ≤ sizeLine; decide, ⟨rfl, ds ++ [.unprop], st0, x6, x7, x8, P', by rw [List.length_append, List.length_singleton]; omega, ?_⟩, ?_⟩))))
      · unfold draR
        rw [e1, e2, e4]
        rfl
      · show (namesD st0.reverse).length < (namesD (n :: st0).reverse).length
        rw [namesD_len, namesD_len, List.length_reverse, List.length_reverse, List.length_cons]
        omega
end
end Dw

namespace Dw
open PySem PySem.Spec PyProof.Rows L2
def topS (i : Nat) : Stmt := PySem.Challenge.pw_nestprops_k28_depths_and_reversed_script.main.body.getD i (.Pass ⟨0, 0, 0, 0⟩)
abbrev sDeal : Stmt := topS 8
abbrev sDraw : Stmt := topS 9
abbrev nDeal : List Str := ["_law_script", "_law_base", "_law_cell", "_law_cells", "_law_number"]
theorem scDeal : FnScope nDeal ["_law_script", "_law_base"] (defScope sDeal) := ⟨rfl, rfl, rfl, by decide +kernel, rfl, by decide +kernel, by decide +kernel⟩
abbrev nDraw : List Str := ["_law_deal_here", "_law_many", "_law_number", "_law_one", "_law_other"]
theorem scDraw : FnScope nDraw ["_law_deal_here", "_law_many"] (defScope sDraw) := ⟨rfl, rfl, rfl, by decide +kernel, rfl, by decide +kernel, by decide +kernel⟩
local macro_rules | `(tactic| walk_at "dw") => `(tactic| first
  | refine de_var rfl ?_ | refine de_int ?_ | refine de_str ?_ | refine de_bl ?_ | refine de_non ?_
  | refine de_intI ?_ | refine de_intB ?_ | refine de_intC ?_ | refine de_eq ?_ | refine de_ne ?_
  | refine da_nil ?_ | refine da_cons ?_ | refine de_max2 ?_ | refine do_none ?_ | refine do_some ?_ | refine dt_test ?_ | refine dt_B ?_ | refine dt_yes ?_
  | refine ⟨_, _, rfl, rfl, ?_⟩ | refine ⟨_, rfl, ?_⟩)
section
variable {P : Program} {w : World} {K : PySem.W.Frag} {mg : Str → Option Value} {base : Heap}
theorem ok_deal {f : Addr} {fd : FuncData} {k : Nat} (F : Fun K "_law_deal" "_law_deal" sDeal f fd) (mM : mg "max" = none) (mL : mg "list" = none) (mR : mg "reversed" = none) : FnOk P w K mg base CX0 (k + 1) f fd ["_law_script", "_law_base"] (spDeal K) := by
  refine F.ok scDeal (fun vs H Q E h => ?_) (fun cdv A outer s H vs Q E hr h => ?_)
  · obtain ⟨a, ns, b, rfl, _⟩ := h
    rfl
  · obtain ⟨a, ns, b, rfl, hS, hlen, b0, b1, q⟩ := h
    have hu := hu_of hr
    refine ⟨_, pss_cons (ps_setLc (i := 3) (own := [("_law_cell", 2)]) (g := gName 2) (tt := tYes) rfl scDeal.nd rfl rfl (sw_true rfl rfl rfl (by decide +kernel)) (pi_list (pe_slice sl_list (pv 0) (po_some (pv 1)) (po_some pe_int)))
          (blkOk_by (N := nDeal) (sc := defScope sDeal) (by decide +kernel)) (fun _ _ _ _ _ => pg_name (i := 2) scDeal.nd rfl (Or.inl rfl)) (fun _ _ _ _ _ => pts_nil)
          (fun _ _ _ _ _ => pe_callB (call_max2 rfl) (by rfl) mM (by decide +kernel) (pa_cons (pv 2) (pa_cons (pe_op op_sub pe_int (pv 2)) pa_nil))))
      (pss_cons (ps_set (i := 4) scDeal.nd rfl (Or.inl rfl) (pe_op op_add pe_int (pv 1)))
      (pss_cons (ps_for PassesOwn.never rfl (pi_list (pv 3)) (pg_name (i := 2) scDeal.nd rfl (Or.inl rfl))
          (pss_one (ps_set (i := 4) scDeal.nd rfl (Or.inl rfl) (pe_op op_mod (pe_op op_add (pe_op op_mul (pv 4) pe_int) (pe_op op_mod (pv 2) pe_int)) pe_int))))
      (pss_one (ps_ret (pe_disp (pps_cons pe_str (pv 4) (pps_cons pe_str pe_int (pps_cons pe_str
          (pe_listRev rfl (by rfl) mL (by rfl) mR (pe_lc (own := [("_law_cell", 2)]) (g := gName 2) (tt := _) (by rfl) scDeal.nd (pi_list (pv 3)) (blkOk_by (N := nDeal) (sc := defScope sDeal) (by decide +kernel))
            (fun _ _ _ _ _ => pg_name (i := 2) scDeal.nd rfl (Or.inl rfl)) (fun _ _ _ _ _ => pts_one (pt_cmpR op_ge (pv 2) (pe_op op_pow pe_int pe_int) (nomark _))) (fun _ _ _ _ _ => pv 2)))
          pps_nil))) (by rfl) (by rfl) (fun z => by cases z) (by decide)))))), ?_⟩
    have R0 : Rp (mdOf K pure0 () H (fun _ => False) (fun _ z => z.elim) (fun _ z => z.elim)) [] (startR 5 [.lst (ns.map D.int), .int b]) (L2.start nDeal [.ref a, .int b]) H :=
      start_rp (M := mdOf K pure0 () H (fun _ => False) (fun _ z => z.elim) (fun _ z => z.elim)) (N := nDeal) (.cons ⟨a, _, rfl, lat_of hS, repL_of_ints ns⟩ (.cons rfl .nil)) trivial
    -- the cells
    refine raw_seq (fun O r => O = [] ∧ ∃ cs : List Int, cs.length ≤ 63 ∧ (∀ c ∈ cs, 0 ≤ c) ∧ r = [.d (.lst (ns.map D.int)), .d (.int b), .un, .d (.lst (cs.map D.int)), .un]) R0 ?_ ?_
    · refine ds_asg (de_lcP (js := [2]) (fun _ _ y => ∃ n : Int, y = .int n ∧ 0 ≤ n) (fun j h => h) (di_list (de_slL ?_)))
      walk_at "dw"
      refine ⟨_, rfl, ?_⟩
      repeat walk_at "dw"
      have hl : (cutD (ns.map D.int) (some b) (some 63)).length ≤ 63 := Nat.le_trans (cutD_len _ _ _) (by rw [List.length_map]; exact hlen)
      refine ⟨Nat.lt_of_le_of_lt hl (by decide), fun O' i x hx => ?_, fun ys hy hc => ?_⟩
      · obtain ⟨n, rfl⟩ : ∃ n, x = D.int n := by
          have h1 := List.mem_of_getElem? hx
          have h2 := List.mem_of_mem_drop (List.mem_of_mem_take h1)
          obtain ⟨n, _, e⟩ := List.mem_map.mp h2
          exact ⟨n, e.symm⟩
        refine dg_name ?_
        repeat walk_at "dw"
        split <;> omega
      · obtain ⟨ms, rfl, hm⟩ := ints_of (P := fun n => 0 ≤ n) fun i y e => by
          obtain ⟨x, ex⟩ : ∃ x, (cutD (ns.map D.int) (some b) (some 63))[i]? = some x := ⟨_, List.getElem?_eq_getElem (by rw [← hy]; exact (List.getElem?_eq_some_iff.mp e).1)⟩
          exact hc i x y ex e
        rw [List.length_map] at hy
        exact ⟨rfl, ms, by omega, hm, rfl⟩
    intro O1 r1 σ1 H1 R1 s1 ⟨e1, cs, hcl, hc, e2⟩
    subst e1 e2
    -- the number
    refine raw_seq (fun O r => O = [] ∧ ∃ n : Int, 0 ≤ n ∧ n < 2147483647 ∧ r = [.d (.lst (ns.map D.int)), .d (.int b), .un, .d (.lst (cs.map D.int)), .d (.int n)]) R1 ?_ ?_
    · refine ds_asg ?_
      repeat walk_at "dw"
      exact ⟨rfl, _, by omega, by omega, rfl⟩
    intro O2 r2 σ2 H2 R2 s2 ⟨e1, n0, hn0, hn1, e2⟩
    subst e1 e2
    refine raw_seq (fun O r => O = [] ∧ ∃ (n : Int) (s : Sl), 0 ≤ n ∧ n < 2147483647 ∧ r = [.d (.lst (ns.map D.int)), .d (.int b), s, .d (.lst (cs.map D.int)), .d (.int n)]) R2 ?_ ?_
    · refine ds_for (js := [2]) (di_list ?_)
      walk_at "dw"
      refine ⟨_, rfl, fun i O r => O = [] ∧ ∃ (n : Int) (s : Sl), 0 ≤ n ∧ n < 2147483647 ∧ r = [.d (.lst (ns.map D.int)), .d (.int b), s, .d (.lst (cs.map D.int)), .d (.int n)], ⟨rfl, n0, .un, hn0, hn1, rfl⟩, fun i x O' r' hx ⟨e1, n, s, h0, h1, e2⟩ => ?_, fun O' r' h => h⟩
      subst e1 e2
      obtain ⟨c, rfl⟩ : ∃ n, x = D.int n := by
        obtain ⟨n, _, e⟩ := List.mem_map.mp (List.mem_of_getElem? hx)
        exact ⟨n, e.symm⟩
      refine dg_name (ds_asg ?_)
      repeat walk_at "dw"
      refine ⟨.inl ⟨by omega, by omega⟩, ?_⟩
      repeat walk_at "dw"
      refine ⟨by decide, ?_⟩
      repeat walk_at "dw"
      refine ⟨by decide, rfl, _, _, Int.emod_nonneg _ (by decide), Int.emod_lt_of_pos _ (by decide), rfl⟩
    intro O3 r3 σ3 H3 R3 s3 ⟨e1, n, s, h0, h1', e2⟩
    subst e1 e2
    -- the dict
    intro p hp
    have R4 := R3.own1 (o := .dK []) hp
    obtain ⟨u4, e4, p4⟩ := R4.slot 4 _ rfl
    have p4 : u4 = .int n := p4
    subst p4
    refine ⟨_, e4, ?_⟩
    have D1 := de_lcF (M := mdOf K pure0 () H (fun _ => False) (fun _ z => z.elim) (fun _ z => z.elim)) (O := [p]) (r := [.d (.lst (ns.map D.int)), .d (.int b), s, .d (.lst (cs.map D.int)), .d (.int n)])
      (wi := iList K (tVar 3)) (g := gName 2) (tt := tTest (tOp (rI0 fun i j => V.bl (decide (j ≤ i))) (tVar 2) (tOp (rI CPow fun i j => V.int (i ^ j.toNat)) (tC (V.int 10)) (tC (V.int 18))))) (te := tVar 2) (vs := [2]) (js := [2]) (k := fun x => ∃ l : List Int, x = .lst (l.map D.int) ∧ ∀ z ∈ l, 0 ≤ z)
      (fun x => match x with
        | .int i => decide ((10 : Int) ^ 18 ≤ i)
        | _ => false) (fun x => x) (fun _ h => h) (by
        refine di_list ?_
        walk_at "dw"
        refine ⟨_, rfl, Nat.lt_of_le_of_lt (by rw [List.length_map]; exact hcl) (by decide : (63 : Nat) < sizeLine), fun O' i x hx => ?_, ?_⟩
        · obtain ⟨c, rfl⟩ : ∃ n, x = D.int n := by
            obtain ⟨n, _, e⟩ := List.mem_map.mp (List.mem_of_getElem? hx)
            exact ⟨n, e.symm⟩
          refine dg_name (dt_test ?_)
          repeat walk_at "dw"
          refine ⟨⟨by decide, by decide, by decide⟩, ?_⟩
          repeat walk_at "dw"
          refine ⟨rfl, fun _ => ?_⟩
          repeat walk_at "dw"
          rfl
        · rw [List.map_id']
          obtain ⟨ms, e, hm⟩ := ints_of (ys := (cs.map D.int).filter fun x => match x with
            | .int i => decide ((10 : Int) ^ 18 ≤ i)
            | _ => false) (P := fun n => 0 ≤ n) fun i y e => by
              have h1 := (List.mem_filter.mp (List.mem_of_getElem? e)).1
              obtain ⟨c, hc1, e1⟩ := List.mem_map.mp h1
              exact ⟨c, e1.symm, hc c hc1⟩
          exact ⟨ms, by rw [e], hm⟩)
    dsimp only [tPairs, tC, tListRev, List.map]
    refine D1 σ3 _ _ R4 fun v H5 d R5 e5 p5 ⟨l, ed, hl⟩ => ?_
    subst ed
    obtain ⟨a5, vs, rfl, h1, h2⟩ := p5
    have ev := repL_ints h2
    subst ev
    refine ⟨a5, _, rfl, h1.sq, fun q5 hq5 => ?_⟩
    have hp5 : H5 p = some (.dK []) := e5 p _ (fun z => z) upd_same
    have npq : p ≠ q5 := ne_of_none hp5 hq5
    refine ⟨by rw [upd_ne npq]; exact hp5, dealKv n 0 q5, rfl, by show 3 ≤ 15; decide, ?_⟩
    have sm : Same H H3 := same_sm R3.sm
    have hpH : H p = none := sm.free hp
    have smH5 : Sm (fun _ => False) H H5 := R5.sm
    have hqH : H q5 = none := (same_sm smH5).free hq5
    refine q (p, q5) _ hpH hqH (fun x o hx => ?_) ⟨n, 0, l.reverse, upd_same, ?_, h0, h1', Int.le_refl 0, fun z hz => hl z (List.mem_reverse.mp hz)⟩
    · rw [upd_ne (ne_of_none hx hpH), upd_ne (ne_of_none hx hqH)]
      exact smH5 x o (fun z => z) hx
    · rw [upd_ne npq.symm, upd_same, List.map_reverse]
theorem ok_draw {f : Addr} {fd : FuncData} {k : Nat} (F : Fun K "_law_draw" "_law_draw" sDraw f fd) (mL : mg "len" = none) : FnOk P w K mg base CX0 (k + 1) f fd ["_law_deal_here", "_law_many"] (spDraw K) := by
  refine F.ok scDraw (fun vs H Q E h => ?_) (fun cdv A outer s H vs Q E hr h => ?_)
  · obtain ⟨g, ds, F1, p, _, _, _, ⟨n, rfl, _⟩, _⟩ := h
    rw [← p.length]
    rfl
  · obtain ⟨g, ds, F1, p, f0, tr, i, ⟨n, rfl, n0, n1⟩, q⟩ := h
    obtain ⟨v1, _, rfl, p1, v2, _, rfl, p2, e⟩ := p
    have p1 : v1 = .ref g.1 := p1
    have p2 : v2 = .int n := p2
    have e : _ = [] := e
    subst p1 p2 e
    have hu := hu_of hr
    obtain ⟨dd, ll⟩ := g
    have hne : ∀ (H : Hp) (s n : Int) (l : List Int), H dd = some (.dK (dealKv s n ll)) → H ll = some (.lst (l.map V.int)) → dd ≠ ll := fun H s n l a b => ne_of a b (by intro z; cases z)
    refine ⟨_, pss_cons (ps_while PassesOwn.never (PW.pt (pw_and (pt_cmpR op_eq (pe_dget hu (pv 0) pe_str (fun _ _ => rfl)) pe_int (nomark _))
          (pw_and1 (pt_cmpR op_gt (pe_callB call_len_seq (by rfl) mL PySem.boot_len (pa_cons (pe_dget hu (pv 0) pe_str (fun _ _ => rfl)) pa_nil)) pe_int (nomark _)))))
          (pss_one (ps_dput hu (pv 0) pe_str (pe_bm0 PySem.F.plainAttrs_list PySem.F.slot_list_pop PySem.F.type_list_pop mt_pop (pe_dget hu (pv 0) pe_str (fun _ _ => rfl))) rfl)))
      (pss_cons (ps_set (i := 2) scDraw.nd rfl (Or.inl rfl) (pe_dget hu (pv 0) pe_str (fun _ _ => rfl)))
      (pss_cons (ps_if (pt_cmpR op_gt (pv 2) pe_int (nomark _)) (pss_cons (ps_dput hu (pv 0) pe_str (pe_op op_fdiv (pv 2) (pv 1)) rfl) (pss_one (ps_ret (pe_op op_mod (pv 2) (pv 1))))) pss_nil)
      (pss_cons (ps_set (i := 3) scDraw.nd rfl (Or.inl rfl) (pe_op op_mod (pe_op op_add (pe_op op_mul (pe_dget hu (pv 0) pe_str (fun _ _ => rfl)) pe_int) pe_int) pe_int))
      (pss_cons (ps_dput hu (pv 0) pe_str (pe_op op_mod (pe_op op_add (pe_op op_mul (pv 3) pe_int) pe_int) pe_int) rfl)
      (pss_cons (ps_set (i := 4) scDraw.nd rfl (Or.inl rfl) (pe_op op_mod (pe_op op_mul (pe_dget hu (pv 0) pe_str (fun _ _ => rfl)) (pe_dget hu (pv 0) pe_str (fun _ _ => rfl))) pe_int))
      (pss_one (ps_ret (pe_op op_mod (pe_op op_add (pe_op op_mul (pe_op op_mod (pe_op op_mul (pv 3) (pv 3)) pe_int) pe_int) (pv 4)) (pv 1))))))))), ?_⟩
    -- what stands between the steps
    have start : ∃ (s m : Int) (l : List Int), H dd = some (.dK (dealKv s m ll)) ∧ H ll = some (.lst (l.map V.int)) ∧ 0 ≤ s ∧ s < 2147483647 ∧ 0 ≤ m ∧ ∀ x ∈ l, (0 : Int) ≤ x := i
    obtain ⟨s0, m0, l0, hd0, hl0, hs0, hs1, hm0, hz0⟩ := start
    have J : ∀ (H' : Hp) (s m : Int) (l : List Int) (x : Int), Sm (dealS.F0 (dd, ll)) H H' → H' dd = some (.dK (dealKv s m ll)) → H' ll = some (.lst (l.map V.int)) → 0 ≤ s → s < 2147483647 → 0 ≤ m → (∀ x ∈ l, (0 : Int) ≤ x) → 0 ≤ x → x < n → Q (.int x) H' :=
      fun H' s m l x sm a b c d e f g h => q (.int x) H' (.int x) sm ⟨s, m, l, a, b, c, d, e, f⟩ rfl ⟨n, x, rfl, rfl, g, h⟩
    have up : ∀ (H' : Hp) (o : HO), Sm (dealS.F0 (dd, ll)) H H' → Sm (dealS.F0 (dd, ll)) H (upd H' dd o) := fun H' o sm a u na e => by
      rw [upd_ne fun z => na (.inl z)]
      exact sm a u na e
    have upl : ∀ (H' : Hp) (o : HO), Sm (dealS.F0 (dd, ll)) H H' → Sm (dealS.F0 (dd, ll)) H (upd H' ll o) := fun H' o sm a u na e => by
      rw [upd_ne fun z => na (.inr z)]
      exact sm a u na e
    -- the while
    refine ⟨fun mm σ H' => σ = [some (.ref dd), some (.int n), none, none, none] ∧ ∃ (s m : Int) (l : List Int), mm = l.length ∧ Sm (dealS.F0 (dd, ll)) H H' ∧ H' dd = some (.dK (dealKv s m ll)) ∧ H' ll = some (.lst (l.map V.int)) ∧ 0 ≤ s ∧ s < 2147483647 ∧ 0 ≤ m ∧ ∀ x ∈ l, (0 : Int) ≤ x,
      ⟨l0.length, rfl, s0, m0, l0, rfl, .refl, hd0, hl0, hs0, hs1, hm0, hz0⟩, ?_⟩
    rintro mm σ H' ⟨rfl, s1, m1, l1, rfl, sm, hd, hl, b0, b1, c0, z0⟩
    by_cases hT : m1 = 0 ∧ l1 ≠ []
    · obtain ⟨rfl, hn⟩ := hT
      have hlen : 0 < l1.length := List.length_pos_iff.mpr hn
      refine ⟨_, rfl, dd, _, rfl, DGet.k (k := Sum.inr "number") hd, rfl, _, rfl, ite2 (fun _ => ?_) (fun e => absurd (decide_eq_true rfl) e)⟩
      refine ⟨_, rfl, dd, _, rfl, DGet.k (k := Sum.inr "left") hd, ll, _, rfl, .inl (SqL.of hl), _, _, rfl, rfl, _, rfl, ?_⟩
      refine ite2 (fun _ => ?_) (fun e => absurd (decide_eq_true (by rw [List.length_map]; omega)) e)
      refine ⟨_, fun σ2 H2 h => h, ?_⟩
      obtain ⟨lr, lz, rfl⟩ : ∃ lr lz, l1 = lr ++ [lz] := ⟨l1.dropLast, l1.getLast hn, (List.dropLast_concat_getLast hn).symm⟩
      have hne' := hne H' s1 0 _ hd hl
      refine ⟨_, rfl, dd, _, rfl, DGet.k (k := Sum.inr "left") hd, .inl ⟨rfl, _, SqL.of hl⟩, ll, _, .int lz, rfl, rfl, hl, by simp, ?_⟩
      have hd2 : (upd H' ll (.lst ((lr ++ [lz]).map V.int).dropLast)) dd = some (.dK (dealKv s1 0 ll)) := by
        rw [upd_ne hne']
        exact hd
      refine ⟨_, rfl, dd, _, rfl, DPut.k (k := Sum.inr "number") hd2 (by show 3 < sizeLine; decide), ?_⟩
      refine ⟨lr.length, by simp, rfl, s1, lz, lr, rfl, up _ _ (upl _ _ sm), by rw [upd_same]; rfl, ?_, b0, b1, z0 lz (by simp), fun x hx => z0 x (by simp [hx])⟩
      rw [upd_ne hne'.symm, upd_same]
      simp
    · have stop : ∀ {R : Bool → Hp → Prop}, R false H' → (tAnd (tTest (tOp rEq (tDGet (tVar 0) (tC (.str "number"))) (tC (.int 0)))) (tTest (tOp (rI0 fun i j => V.bl (decide (j < i))) (tCB (fun xs H Q => ∃ p ys, xs = [.ref p] ∧ (SqL K H p ys ∨ SqT K H p ys) ∧ Q (.int ys.length) H) (tCons (tDGet (tVar 0) (tC (.str "left"))) tNil)) (tC (.int 0)))))
          [some (.ref dd), some (.int n), none, none, none] H' R := fun {R} hR => by
        refine ⟨_, rfl, dd, _, rfl, DGet.k (k := Sum.inr "number") hd, rfl, _, rfl, ite2 (fun e => ?_) (fun e => hR)⟩
        have e0 : m1 = 0 := V.int.inj (of_decide_eq_true e)
        have e1 : l1 = [] := Classical.byContradiction fun z => hT ⟨e0, z⟩
        refine ⟨_, rfl, dd, _, rfl, DGet.k (k := Sum.inr "left") hd, ll, _, rfl, .inl (SqL.of hl), _, _, rfl, rfl, _, rfl, ?_⟩
        subst e1
        exact hR
      refine stop (iteF ?_)
      -- number
      refine ⟨_, rfl, dd, _, rfl, DGet.k (k := Sum.inr "number") hd, ?_⟩
      refine ⟨_, rfl, _, _, rfl, rfl, _, rfl, ite2 (fun e => ?_) (fun e => ?_)⟩
      · have e0 : 0 < m1 := of_decide_eq_true e
        refine ⟨_, rfl, _, rfl, _, _, rfl, rfl, ⟨n0, n1⟩, _, rfl, dd, _, rfl, DPut.k (k := Sum.inr "number") hd (by show 3 < sizeLine; decide), ?_⟩
        refine ⟨_, rfl, _, rfl, _, _, rfl, rfl, n0, ?_⟩
        have hne' := hne H' s1 m1 _ hd hl
        refine J _ s1 (m1 / n) l1 _ (up _ _ sm) (by rw [upd_same]; rfl) (by rw [upd_ne hne'.symm]; exact hl) b0 b1 (Int.ediv_nonneg c0 (by omega)) z0 (Int.emod_nonneg _ (by omega)) (Int.emod_lt_of_pos _ n0)
      · -- one
        refine ⟨_, rfl, dd, _, rfl, DGet.k (k := Sum.inr "seed") hd, s1, 48271, rfl, rfl, .inl ⟨by omega, by omega⟩, _, _, rfl, rfl, _, _, rfl, rfl, (by show (0 : Int) < 2147483647; decide), ?_⟩
        dsimp only
        generalize ho : (s1 * 48271 + 7919) % 2147483647 = one
        have o0 : 0 ≤ one := by rw [← ho]; exact Int.emod_nonneg _ (by decide)
        have o1 : one < 2147483647 := by rw [← ho]; exact Int.emod_lt_of_pos _ (by decide)
        refine ⟨_, rfl, _, _, rfl, rfl, .inl ⟨by omega, by omega⟩, _, _, rfl, rfl, _, _, rfl, rfl, (by show (0 : Int) < 2147483399; decide), _, rfl, dd, _, rfl, DPut.k (k := Sum.inr "seed") hd (by show 3 < sizeLine; decide), ?_⟩
        dsimp only
        generalize hs : (one * 40692 + 104729) % 2147483399 = seed
        have q0 : 0 ≤ seed := by rw [← hs]; exact Int.emod_nonneg _ (by decide)
        have q1 : seed < 2147483399 := by rw [← hs]; exact Int.emod_lt_of_pos _ (by decide)
        have hne' := hne H' s1 m1 _ hd hl
        have hd2 : (upd H' dd (.dK (putK (dealKv s1 m1 ll) (.inr "seed") (.int seed)))) dd = some (.dK (dealKv seed m1 ll)) := by
          rw [upd_same]
          rfl
        refine ⟨_, rfl, dd, _, rfl, DGet.k (k := Sum.inr "seed") hd2, _, rfl, dd, _, rfl, DGet.k (k := Sum.inr "seed") hd2, _, _, rfl, rfl, .inl ⟨by omega, by omega⟩, _, _, rfl, rfl, (by show (0 : Int) < 2147483563; decide), ?_⟩
        refine ⟨_, rfl, _, rfl, _, _, rfl, rfl, .inl ⟨by omega, by omega⟩, _, _, rfl, rfl, (by show (0 : Int) < 2147483629; decide), _, _, rfl, rfl, .inr ⟨by decide, by decide⟩, _, rfl, _, _, rfl, rfl, _, rfl, _, _, rfl, rfl, n0, ?_⟩
        exact J _ seed m1 l1 _ (up _ _ sm) hd2 (by rw [upd_ne hne'.symm]; exact hl) q0 (by omega) c0 z0 (Int.emod_nonneg _ (by omega)) (Int.emod_lt_of_pos _ n0)
end
end Dw

/-! L28b: the law. -/
namespace Dw
open PySem PySem.Spec PyProof.Rows L2
local macro_rules | `(tactic| walk_at "dw") => `(tactic| first
  | refine de_var rfl ?_ | refine de_int ?_ | refine de_str ?_ | refine de_bl ?_ | refine de_non ?_
  | refine de_intI ?_ | refine de_intB ?_ | refine de_intC ?_ | refine de_eq ?_ | refine de_ne ?_
  | refine da_nil ?_ | refine da_cons ?_ | refine de_max2 ?_ | refine do_none ?_ | refine do_some ?_ | refine dt_test ?_ | refine dt_B ?_ | refine dt_yes ?_
  | refine ⟨_, _, rfl, rfl, ?_⟩ | refine ⟨_, rfl, ?_⟩)
theorem undos_len : ∀ (ds : List Dd) (a b : List (List Nat)), runs a ds = some b → (undos a ds).length = ds.length
  | [], a, b, _ => rfl
  | d :: ds, a, b, h => by
    have h2 : ((goes a d).bind fun s => runs s ds) = some b := h
    cases e : goes a d with
    | none =>
      rw [e] at h2
      cases h2
    | some s1 =>
      rw [e] at h2
      rw [undos_cons _ e, List.length_cons, undos_len ds s1 b h2, List.length_cons]
theorem undos_ok : ∀ (ds : List Dd) (a b : List (List Nat)), runs a ds = some b → (∀ w ∈ a, Name w) → (∀ d ∈ ds, deedOk d) → ∀ d ∈ undos a ds, deedOk d
  | [], a, b, _, _, _ => fun d h => nomatch h
  | d :: ds, a, b, h, ha, hd => by
    have h2 : ((goes a d).bind fun s => runs s ds) = some b := h
    cases e : goes a d with
    | none =>
      rw [e] at h2
      cases h2
    | some s1 =>
      rw [e] at h2
      have o := hd d (by simp)
      have both : deedOk (undo a d) ∧ ∀ w ∈ s1, Name w := by
        cases d with
        | put n =>
          cases e
          exact ⟨o, ha⟩
        | take n =>
          cases e
          exact ⟨o, ha⟩
        | prop n =>
          cases e
          exact ⟨trivial, fun w hw => (List.mem_cons.mp hw).elim (fun z => by rw [z]; exact o) (ha w)⟩
        | unprop =>
          cases a with
          | nil => cases e
          | cons n a =>
            cases e
            exact ⟨ha n (by simp), fun w hw => ha w (List.mem_cons_of_mem _ hw)⟩
      rw [undos_cons _ e]
      intro x hx
      rcases List.mem_cons.mp hx with rfl | hx
      · exact both.1
      · exact undos_ok ds s1 b h2 both.2 (fun y hy => hd y (List.mem_cons_of_mem _ hy)) x hx
theorem deep_le : ∀ (ds : List Dd) (a b : List (List Nat)), runs a ds = some b → deep a ds ≤ a.length + ds.length
  | [], a, b, _ => Nat.le_refl _
  | d :: ds, a, b, h => by
    have h2 : ((goes a d).bind fun s => runs s ds) = some b := h
    cases e : goes a d with
    | none =>
      rw [e] at h2
      cases h2
    | some s1 =>
      rw [e] at h2
      have ih := deep_le ds s1 b h2
      have l : s1.length ≤ a.length + 1 := by
        cases d with
        | put n =>
          cases e
          omega
        | take n =>
          cases e
          omega
        | prop n =>
          cases e
          exact Nat.le_refl _
        | unprop =>
          cases a with
          | nil => cases e
          | cons n a =>
            cases e
            rw [List.length_cons]
            omega
      rw [deep_cons _ e, List.length_cons]
      omega
/-- the way back is a whole script -/
theorem Whole.back {ds : List Dd} (h : Whole ds) : Whole (undos [] ds).reverse ∧ (undos [] (undos [] ds).reverse).reverse = ds ∧ deep [] (undos [] ds).reverse = deep [] ds := by
  obtain ⟨b1, b2, b3⟩ := back_ok ds [] [] h.runs
  exact ⟨⟨fun d hd => undos_ok ds [] [] h.runs (fun w z => nomatch z) h.ok d (List.mem_reverse.mp hd), b1, (back_fresh ds [] [] h.runs List.nodup_nil h.fresh).2, by rw [List.length_reverse, undos_len ds [] [] h.runs]; exact h.len⟩, b2, b3⟩
theorem ok_deed {d : Dd} (h : deedOk d) : D.ok 1 147 (deedD d) := by
  have w : ∀ (s : Str), D.ok 0 70 (.str s) → ∀ {n : List Nat}, Name n → D.ok 1 147 (.tup [.str s, .str (tx n)]) := fun s hs n hn => ok_tup (n := 0) (B := 70) (L := 2) (fun x hx => by
    simp only [List.mem_cons, List.not_mem_nil, or_false] at hx
    rcases hx with rfl | rfl
    · exact hs
    · exact ok_name hn) (Nat.le_refl _)
  cases d with
  | put n => exact w _ ⟨by decide +kernel, by decide +kernel, by decide +kernel⟩ h
  | take n => exact w _ ⟨by decide +kernel, by decide +kernel, by decide +kernel⟩ h
  | prop n => exact w _ ⟨by decide +kernel, by decide +kernel, by decide +kernel⟩ h
  | unprop => exact ⟨by decide +kernel, by decide +kernel, by decide +kernel⟩
theorem ok_deedsL {ds : List Dd} (h : Whole ds) : D.ok 2 9000 (.lst (deedsD ds)) := (ok_lst (n := 1) (B := 147) (L := 60) (fun x hx => by
  obtain ⟨d, hd, rfl⟩ := List.mem_map.mp hx
  exact ok_deed (h.ok d hd)) (by rw [List.length_map]; exact h.len)).mono (Nat.le_refl _) (by decide)
theorem ok_deedsT {ds : List Dd} (h : Whole ds) : D.ok 2 9000 (.tup (deedsD ds)) := (ok_tup (n := 1) (B := 147) (L := 60) (fun x hx => by
  obtain ⟨d, hd, rfl⟩ := List.mem_map.mp hx
  exact ok_deed (h.ok d hd)) (by rw [List.length_map]; exact h.len)).mono (Nat.le_refl _) (by decide)
theorem ok_small : ∀ n : Nat, n ≤ 60 → D.ok 0 20 (.int (n : Int)) := fun n hn => by
  have key : ∀ n : Nat, n < 61 → ((D.int (n : Int)).pl = true ∧ (D.int (n : Int)).py.depth ≤ 0 ∧ (D.int (n : Int)).shown.length ≤ 20) := by decide +kernel
  exact key n (by omega)
abbrev nLaw : List Str := ["_law_script", "_law_deal_here", "_law_turn", "_law_names", "_law_deeds", "_law_back", "_law_most", "_law_handed", "_law_kept"]
theorem scLaw : FnScope nLaw ["_law_script"] (defScope sLaw) := ⟨rfl, rfl, rfl, by decide +kernel, rfl, by decide +kernel, by decide +kernel⟩
def spLaw (K : PySem.W.Frag) : Sp := fun vs H Q _ => ∃ (a : Addr) (ns : List Int), vs = [.ref a] ∧ SqL K H a (ns.map V.int) ∧ ns.length ≤ 63 ∧ ∀ H', Q (.bl true) H'
/-- a list or a tuple of these deeds -/
def Deeds (ds : List Dd) (xs : List D) : Prop := xs = [.lst (deedsD ds)] ∨ xs = [.tup (deedsD ds)]
def preDeeds (xs : List D) : Prop := ∃ ds, Whole ds ∧ Deeds ds xs
def postDepth (xs : List D) (d : D) : Prop := ∀ ds, Whole ds → Deeds ds xs → d = .int (deep [] ds)
def postBack (xs : List D) (d : D) : Prop := ∀ ds, Whole ds → Deeds ds xs → d = .tup (deedsD (undos [] ds).reverse)
theorem dt_orF {M : Md} {O : List Addr} {r : List Sl} {tt tu : TT} {C : Prop} (h : DT M tt O r fun b => b = false ∧ DT M tu O r fun b => b = true → C) : DT M (tOr tt tu) O r fun b => b = true → C := dt_or (h.imp fun b hb => by
  obtain ⟨rfl, q⟩ := hb
  exact q)
section
variable {P : Program} {w : World} {K : PySem.W.Frag} {mg : Str → Option Value} {base : Heap} {k : Nat} {f : Addr} {fd : FuncData}
variable {fDe fDr fWo fDa fDp fRv : Addr} {dDe dDr dWo dDa dDp dRv : FuncData} {n1 n2 : Str}
theorem ok_law (F : Fun K "law" "law" sLaw f fd)
    (GDe : FnOk P w K mg base CX0 k fDe dDe ["_law_script", "_law_base"] (spDeal K)) (mDe : mg "_law_deal" = some (.ref fDe)) (kDe : PySem.W.keepIn K (.ref fDe) = true) (bDe : Binds K dDe ["_law_script", "_law_base"] [])
    (GDr : FnOk P w K mg base CX0 k fDr dDr ["_law_deal_here", "_law_many"] (spDraw K)) (mDr : mg "_law_draw" = some (.ref fDr)) (kDr : PySem.W.keepIn K (.ref fDr) = true) (bDr : Binds K dDr ["_law_deal_here", "_law_many"] [])
    (GWo : FnOk P w K mg base CX0 k fWo dWo ["_law_deal_here", "_law_many"] (SpD K dealS preWor postWor)) (mWo : mg "_law_words" = some (.ref fWo)) (kWo : PySem.W.keepIn K (.ref fWo) = true) (bWo : Binds K dWo ["_law_deal_here", "_law_many"] [])
    (GDa : FnOk P w K mg base CX0 k fDa dDa ["_law_deal_here", "_law_names"] (SpD K dealS preDra postDra)) (mDa : mg "_law_drawn" = some (.ref fDa)) (kDa : PySem.W.keepIn K (.ref fDa) = true) (bDa : Binds K dDa ["_law_deal_here", "_law_names"] [])
    (GDp : FnOk P w K mg base CX0 k fDp dDp [n1] (SpP K preDeeds postDepth)) (mDp : mg "depth_of" = some (.ref fDp)) (kDp : PySem.W.keepIn K (.ref fDp) = true) (bDp : Binds K dDp [n1] [])
    (GRv : FnOk P w K mg base CX0 k fRv dRv [n2] (SpP K preDeeds postBack)) (mRv : mg "reverse_of" = some (.ref fRv)) (kRv : PySem.W.keepIn K (.ref fRv) = true) (bRv : Binds K dRv [n2] [])
    (mR : mg "range" = none) (mN : mg "len" = none) (mL : mg "list" = none) (mT : mg "tuple" = none) (mP : mg "repr" = none) : FnG P w K mg base (k + 1) f fd ["_law_script"] (spLaw K) := by
  refine fng_of F scLaw (fun vs H Q E ⟨a, ns, e, _⟩ => by rw [e]; rfl) fun cdv A outer s H vs Q E hg hr h => ?_
  obtain ⟨a, ns, rfl, hS, hlen, q⟩ := h
  have hu := hr.units
  refine ⟨_, (pss_cons (ps_set (i := 1) scLaw.nd rfl (Or.inl rfl) (pe_call GDe hr (by rfl) mDe kDe bDe .nil pass0 (pa_cons (pv 0) (pa_cons pe_int pa_nil)))) (pss_cons (ps_for PassesOwn.never rfl (pi_range1 (by rfl) mR (pa_cons (pe_op op_add pe_int (pe_callB call_len_seq (by rfl) mN PySem.boot_len (pa_cons (pe_slice sl_list (pv 0) po_none (po_some pe_int)) pa_nil))) pa_nil)) (pg_name (i := 2) scLaw.nd rfl (Or.inl rfl)) (pss_cons (ps_set (i := 3) scLaw.nd rfl (Or.inl rfl) (pe_call GWo hr (by rfl) mWo kWo bWo .nil pass0 (pa_cons (pv 1) (pa_cons (pe_op op_add pe_int (pe_call GDr hr (by rfl) mDr kDr bDr .nil pass0 (pa_cons (pv 1) (pa_cons pe_int pa_nil)))) pa_nil)))) (pss_cons (ps_asg (pe_call GDa hr (by rfl) mDa kDa bDa .nil pass0 (pa_cons (pv 1) (pa_cons (pv 3) pa_nil))) (pg_tup rfl (pgs_cons (pg_name (i := 4) scLaw.nd rfl (Or.inl rfl)) (pgs_cons (pg_name (i := 5) scLaw.nd rfl (Or.inl rfl)) (pgs_cons (pg_name (i := 6) scLaw.nd rfl (Or.inl rfl)) pgs_nil))))) (pss_cons (ps_set (i := 7) scLaw.nd rfl (Or.inl rfl) (pe_ix ix_list (pe_lst (pa_cons (pe_callTy call_list_of (by rfl) mL (by decide +kernel) (pa_cons (pv 4) pa_nil)) (pa_cons (pe_tupleOf (by rfl) mT (pv 4)) pa_nil))) (pe_call GDr hr (by rfl) mDr kDr bDr .nil pass0 (pa_cons (pv 1) (pa_cons pe_int pa_nil))) (fun _ _ => rfl))) (pss_cons (ps_set (i := 8) scLaw.nd rfl (Or.inl rfl) (pe_callB (call_reprD hg hu) (by rfl) mP PyProof.Rows.boot_repr (pa_cons (pv 7) pa_nil))) (pss_cons (ps_if (PW.pt (pw_or (pt_cmpR op_ne (pe_callB (call_reprD hg hu) (by rfl) mP PyProof.Rows.boot_repr (pa_cons (pe_call GDp hr (by rfl) mDp kDp bDp .nil pass0 (pa_cons (pv 7) pa_nil)) pa_nil)) (pe_callB (call_reprD hg hu) (by rfl) mP PyProof.Rows.boot_repr (pa_cons (pv 6) pa_nil)) (nomark _)) (pw_or1 (pt_cmpR op_ne (pe_callB (call_reprD hg hu) (by rfl) mP PyProof.Rows.boot_repr (pa_cons (pe_call GRv hr (by rfl) mRv kRv bRv .nil pass0 (pa_cons (pv 7) pa_nil)) pa_nil)) (pe_callB (call_reprD hg hu) (by rfl) mP PyProof.Rows.boot_repr (pa_cons (pv 5) pa_nil)) (nomark _))))) (pss_one (ps_ret pe_bl)) pss_nil) (pss_cons (ps_if (PW.pt (pw_or (pt_cmpR op_ne (pe_callB (call_reprD hg hu) (by rfl) mP PyProof.Rows.boot_repr (pa_cons (pe_call GRv hr (by rfl) mRv kRv bRv .nil pass0 (pa_cons (pe_call GRv hr (by rfl) mRv kRv bRv .nil pass0 (pa_cons (pv 7) pa_nil)) pa_nil)) pa_nil)) (pe_callB (call_reprD hg hu) (by rfl) mP PyProof.Rows.boot_repr (pa_cons (pe_tupleOf (by rfl) mT (pv 4)) pa_nil)) (nomark _)) (pw_or1 (pt_cmpR op_ne (pe_callB (call_reprD hg hu) (by rfl) mP PyProof.Rows.boot_repr (pa_cons (pe_call GDp hr (by rfl) mDp kDp bDp .nil pass0 (pa_cons (pv 5) pa_nil)) pa_nil)) (pe_callB (call_reprD hg hu) (by rfl) mP PyProof.Rows.boot_repr (pa_cons (pv 6) pa_nil)) (nomark _))))) (pss_one (ps_ret pe_bl)) pss_nil) (pss_one (ps_if (PW.pt (pw_or (pt_cmpR op_ne (pe_callB (call_reprD hg hu) (by rfl) mP PyProof.Rows.boot_repr (pa_cons (pv 7) pa_nil)) (pv 8) (nomark _)) (pw_or (pt_cmpR op_ne (pe_callB (call_reprD hg hu) (by rfl) mP PyProof.Rows.boot_repr (pa_cons (pe_call GDp hr (by rfl) mDp kDp bDp .nil pass0 (pa_cons (pe_lst pa_nil) pa_nil)) pa_nil)) pe_str (nomark _)) (pw_or1 (pt_cmpR op_ne (pe_callB (call_reprD hg hu) (by rfl) mP PyProof.Rows.boot_repr (pa_cons (pe_call GRv hr (by rfl) mRv kRv bRv .nil pass0 (pa_cons (pe_tup pa_nil) pa_nil)) pa_nil)) pe_str (nomark _)))))) (pss_one (ps_ret pe_bl)) pss_nil))))))))) (pss_one (ps_ret pe_bl)))), ?_⟩
  refine ⟨_, rfl, a, ns, 0, rfl, hS, hlen, Int.le_refl _, by decide, fun g H1 m1 m2 sm hD => ?_⟩
  have f0 : ∀ x, dealS.F0 g x → x = g.1 ∨ x = g.2 := fun x h => h
  have tr : ∀ x, (x = g.1 ∨ x = g.2) → H1 x ≠ none := fun x h => dealS.tk g H1 x hD h
  have pa : RepL K (fun x => x = g.1 ∨ x = g.2) H1 [.lst (ns.map D.int)] [.ref a] := by
    have l0 : LAt K (fun x => x = g.1 ∨ x = g.2) H a (ns.map V.int) := (lat_of hS).gen fun x hx => .inr (by
      rcases hx with rfl | rfl
      · exact m1
      · exact m2)
    exact .one ⟨a, _, rfl, l0.mono (fun x o _ e => sm x o e), repL_of_ints ns⟩
  have R0 := (start_rp (M := mdOf K dealS g H1 _ f0 tr) (N := nLaw) pa hD).set (i := 1) (v := .ref g.1) (s := .d (.ref g.1)) ⟨_, rfl, rfl⟩ (fun p xs e => nomatch e)
  dsimp only [gName]
  refine (?_ : DS (mdOf K dealS g H1 _ f0 tr) _ [] ((startR nLaw.length [.lst (ns.map D.int)]).set 1 (.d (.ref g.1))) { nx := fun _ _ => False, rt := fun d => d = .bl true }) _ H1 _ R0 ⟨fun _ _ _ _ _ _ z => z.elim, fun v H2 d _ _ p e => by
    subst e
    obtain rfl : v = .bl true := p
    exact q _, fun _ _ _ _ _ _ z => z.elim, fun _ _ _ _ _ _ z => z.elim⟩
  have h0 : (mdOf K dealS g H1 (fun x => x = g.1 ∨ x = g.2) f0 tr).F0 = dealS.F0 g := rfl
  have hI : (mdOf K dealS g H1 (fun x => x = g.1 ∨ x = g.2) f0 tr).I = dealS.I g := rfl
  refine ds_seq (ds_for (js := [2]) (di_range1 (da_cons (de_intI (de_int (de_len (de_slL (de_var rfl ⟨_, rfl, do_none (do_some (de_int ⟨_, rfl, ?_⟩))⟩))))))))
  have hc : (cutD (ns.map D.int) none (some 5)).length ≤ 63 := Nat.le_trans (cutD_len _ _ _) (by rw [List.length_map]; exact hlen)
  refine ⟨_, .inl rfl, _, _, rfl, rfl, da_nil ⟨_, rfl, ⟨by omega, by omega⟩, fun _ O r => O = [] ∧ ∃ s2 s3 s4 s5 s6 s7 s8 : Sl, r = [.d (.lst (ns.map D.int)), .d (.ref g.1), s2, s3, s4, s5, s6, s7, s8],
    ⟨rfl, .un, .un, .un, .un, .un, .un, .un, rfl⟩, fun turn x O' r' hx hv => ?_, fun O' r' hv => ds_ret (de_bl rfl)⟩⟩
  obtain ⟨rfl, s2, s3, s4, s5, s6, s7, s8, rfl⟩ := hv
  refine dg_name (ds_seq (ds_asg (de_call g h0 hI (da_cons (de_var rfl (da_cons (de_intI (de_int (de_draw (i := 1) h0 hI rfl (by decide) (by decide) fun m y0 y1 => ⟨_, _, rfl, rfl, da_nil ⟨⟨1 + m, rfl, by omega, by omega⟩, fun d hd => ?_⟩⟩)))))))))
  obtain ⟨mm, ws, e, rfl, hg⟩ := hd
  cases e
  refine ds_seq (ds_asgG (js := [4, 5, 6]) (de_call g h0 hI (da_cons (de_var rfl (da_cons (de_var rfl (da_nil ⟨⟨ws, rfl, by rw [hg.1]; omega, by rw [hg.1]; omega, hg.2.2⟩, fun d hd => ?_⟩)))))))
  obtain ⟨ds, hW, rfl⟩ := hd
  refine dg_tup rfl (dgs_cons (dg_name (dgs_cons (dg_name (dgs_cons (dg_name (dgs_nil ?_)))))))
  obtain ⟨hB, hbb, hbd⟩ := hW.back
  have d60 : deep [] ds ≤ 60 := by
    have := deep_le ds [] [] hW.runs
    have := hW.len
    simp at *
    omega
  have okm := ok_small _ d60
  -- handed
  refine ds_seq (ds_asg (de_ixL (de_lst (da_cons (de_listOf (de_var rfl ⟨_, .inl rfl, da_cons (de_thenTup (de_var rfl ⟨_, rfl, da_nil ⟨by show 2 ≤ sizeLine; decide, de_draw (i := 1) h0 hI rfl (by decide) (by decide) fun v v0 v1 => ?_⟩⟩))⟩))))))
  have pick : ∃ X, atI [D.lst (deedsD ds), D.tup (deedsD ds)] v = some X ∧ Deeds ds [X] ∧ D.ok 2 9000 X := by
    have z : v = 0 ∨ v = 1 := by omega
    rcases z with rfl | rfl
    · exact ⟨_, rfl, .inl rfl, ok_deedsL hW⟩
    · exact ⟨_, rfl, .inr rfl, ok_deedsT hW⟩
  obtain ⟨X, pX, dX, oX⟩ := pick
  refine ⟨_, v, X, rfl, rfl, pX, ?_⟩
  refine ds_seq (ds_asg (de_repr (de_var rfl ⟨2, 9000, oX, by decide, by decide, ?_⟩)))
  have nine : (9000 : Nat) ≤ sizeLine := by decide
  have no : ∀ {x : Str} {C : Prop}, (!decide (V.str x = V.str x)) = true → C := fun {x C} z => by simp at z
  have yes : ∀ {x : Str}, (!decide (V.str x = V.str x)) = false := fun {x} => by simp
  have wnil : Whole [] := ⟨fun d h => (nomatch h), rfl, trivial, Nat.zero_le _⟩
  -- the first test
  refine ds_seq (ds_ifN (dt_orF (dt_test (de_ne (de_repr (de_callP (da_cons (de_var rfl (da_nil ⟨⟨ds, hW, dX⟩, fun d hd => ?_⟩)))))))) ?_)
  · obtain rfl := hd ds hW dX
    refine ⟨0, 20, okm, by decide, by decide, de_repr (de_var rfl ⟨0, 20, okm, by decide, by decide, _, _, rfl, rfl, rfl, _, rfl, yes, ?_⟩)⟩
    refine dt_test (de_ne (de_repr (de_callP (da_cons (de_var rfl (da_nil ⟨⟨ds, hW, dX⟩, fun d hd => ?_⟩))))))
    obtain rfl := hd ds hW dX
    exact ⟨2, 9000, ok_deedsT hB, by decide, nine, de_repr (de_var rfl ⟨2, 9000, ok_deedsT hB, by decide, nine, _, _, rfl, rfl, rfl, _, rfl, no⟩)⟩
  -- the second
  refine ds_seq (ds_ifN (dt_orF (dt_test (de_ne (de_repr (de_callP (da_cons (de_callP (da_cons (de_var rfl (da_nil ⟨⟨ds, hW, dX⟩, fun d hd => ?_⟩))))))))) ) ?_)
  · obtain rfl := hd ds hW dX
    refine da_nil ⟨⟨_, hB, .inr rfl⟩, fun d hd => ?_⟩
    obtain rfl := hd _ hB (.inr rfl)
    rw [hbb]
    refine ⟨2, 9000, ok_deedsT hW, by decide, nine, de_repr (de_thenTup (de_var rfl ⟨_, rfl, 2, 9000, ok_deedsT hW, by decide, nine, _, _, rfl, rfl, rfl, _, rfl, yes, ?_⟩))⟩
    refine dt_test (de_ne (de_repr (de_callP (da_cons (de_var rfl (da_nil ⟨⟨_, hB, .inr rfl⟩, fun d hd => ?_⟩))))))
    obtain rfl := hd _ hB (.inr rfl)
    rw [hbd]
    exact ⟨0, 20, okm, by decide, by decide, de_repr (de_var rfl ⟨0, 20, okm, by decide, by decide, _, _, rfl, rfl, rfl, _, rfl, no⟩)⟩
  -- the third
  refine ds_ifN (dt_orF (dt_test (de_ne (de_repr (de_var rfl ⟨2, 9000, oX, by decide, nine, de_var rfl ⟨_, _, rfl, rfl, rfl, _, rfl, yes, ?_⟩⟩))))) ⟨rfl, _, _, _, _, _, _, _, rfl⟩
  refine dt_orF (dt_test (de_ne (de_repr (de_callP (da_cons (de_lst (da_nil ⟨Nat.zero_le _, da_nil ⟨⟨[], wnil, .inl rfl⟩, fun d hd => ?_⟩⟩)))))))
  obtain rfl := hd [] wnil (.inl rfl)
  refine ⟨0, 20, ok_small 0 (by decide), by decide, by decide, de_str ⟨_, _, rfl, rfl, rfl, _, rfl, by decide +kernel, ?_⟩⟩
  refine dt_test (de_ne (de_repr (de_callP (da_cons (de_tup (da_nil ⟨Nat.zero_le _, da_nil ⟨⟨[], wnil, .inr rfl⟩, fun d hd => ?_⟩⟩))))))
  obtain rfl := hd [] wnil (.inr rfl)
  exact ⟨2, 9000, ok_deedsT wnil, by decide, nine, de_str ⟨_, _, rfl, rfl, rfl, _, rfl, fun z => absurd z (by decide +kernel)⟩⟩
end
end Dw

/-! DwSet: sets whose members are scanned, of any kind of key: what stands in them, an item put in, all of them sorted. -/
namespace Dw
open PySem PySem.Spec PyProof.Rows L2
section
variable {P : Program} {w : World} {κ : Type} [DecidableEq κ]
/-- a value of the kind -/
def Gv (knd : PySem.KeyKind P w κ) (key : Value → κ) (v : Value) : Prop := knd.is (key v) v = true ∧ v.scannable = true
def Ge (knd : PySem.KeyKind P w κ) (key : Value → κ) (e : Int × Value) : Prop := Gv knd key e.2 ∧ e.1 = knd.hash (key e.2)
/-- the keys that stand in a row of entries -/
abbrev ksOf (key : Value → κ) (l : List (Int × Value)) : List κ := l.map fun e => key e.2
structure SetD (knd : PySem.KeyKind P w κ) (key : Value → κ) (S : κ → Bool) (n : Nat) (es : Array (Int × Value)) (t : SetTable) : Prop where
  good : ∀ e ∈ es.toList, Ge knd key e
  nodup : (ksOf key es.toList).Nodup
  mem : ∀ k, S k = true ↔ k ∈ ksOf key es.toList
  small : es.size < scanBound
  fits : t.fits es.size = true
  size : es.size = n
  ris : Ris t.place.toList
  led : w.params.followText "set-order" = true ∨ t.led = true
def SetG (knd : PySem.KeyKind P w κ) (key : Value → κ) (h : Heap) (a : Addr) (S : κ → Bool) (n : Nat) : Prop :=
  ∃ o es ep t, h.get? a = some o ∧ o.ExactSet ∧ o.data = .set es ep t ∧ SetD knd key S n es t
variable {knd : PySem.KeyKind P w κ} {key : Value → κ} {h h' : Heap} {a : Addr} {S : κ → Bool} {n : Nat}
theorem SetG.at (R : SetG knd key h a S n) (k : ∀ o, h.get? a = some o → h'.get? a = some o) : SetG knd key h' a S n := by
  obtain ⟨o, es, ep, t, ho, r⟩ := R
  exact ⟨o, es, ep, t, k o ho, r⟩
theorem gv_is {v : Value} (g : Gv knd key v) (k : κ) : knd.is k v = true ↔ key v = k := ⟨fun z => knd.inj v _ _ g.1 z, fun z => z ▸ g.1⟩
theorem elems_of {l : List (Int × Value)} (g : ∀ e ∈ l, Ge knd key e) : ElemsOf knd l := fun e he => ⟨⟨key e.2, (g e he).1.1, (g e he).2⟩, (g e he).1.2⟩
theorem ks_mem {l : List (Int × Value)} (g : ∀ e ∈ l, Ge knd key e) (k : κ) : k ∈ ksOf key l ↔ ∃ e ∈ l, knd.is k e.2 = true := by
  rw [List.mem_map]
  exact ⟨fun ⟨e, he, q⟩ => ⟨e, he, (gv_is (g e he).1 k).2 q⟩, fun ⟨e, he, q⟩ => ⟨e, he, (gv_is (g e he).1 k).1 q⟩⟩
theorem SetG.setOf (R : SetG knd key h a S n) : h.SetOf knd a S n := by
  obtain ⟨o, es, ep, t, ho, hx, hd, D⟩ := R
  exact ⟨o, es, ep, t, ho, hx, hd, elems_of D.good, fun k => (D.mem k).trans (ks_mem D.good k), D.small, D.fits, D.size⟩
theorem setG_fresh {h : Heap} : SetG knd key (h.push { cls := .type "set", dict := none, data := .set #[] 0 (.fresh 0 0 (!w.params.followText "set-order")) }) h.objs.size (fun _ => false) 0 := by
  obtain ⟨o, es, ep, t, ho, hx, hd, g, nd, hm, hb, hf, hn, hr, hl⟩ := setR_fresh (h := h) w
  have e0 : es = #[] := Array.eq_empty_of_size_eq_zero hn
  subst e0
  exact ⟨o, _, ep, t, ho, hx, hd, ⟨fun e he => (nomatch he), List.nodup_nil, fun k => ⟨fun z => (nomatch z), fun z => (nomatch z)⟩, hb, hf, hn, hr, hl⟩⟩
end
section
variable {P : Program} {w : World} {κ : Type} [DecidableEq κ] {knd : PySem.KeyKind P w κ} {key : Value → κ} {A : Around} {E : Value → Shared → Prop} {s : Shared} {a : Addr} {S : κ → Bool} {n : Nat}
/-- the entries are stored, and laid anew where the table is too full -/
theorem put_all {give : Bool → Sem Unit} (free : ∀ (b : Bool) (s1 : Shared) (Q' : Unit → Shared → Prop), Q' () s1 → wpAny (model P w) A (give b) Q' E s1)
    {o : Obj} {es es1 : Array (Int × Value)} {ep : Nat} {t t2 : SetTable} {S' : κ → Bool} {m : Nat} (ho : s.heap.get? a = some o) (hex : o.ExactSet) (hd : o.data = .set es ep t) (D : SetD knd key S' m es1 t2) {dummy : Bool} {R : Option Bool → Shared → Prop}
    (hR : ∀ h', Heap.SameBut a s.heap h' → SetG knd key h' a S' m → R (some true) { s with heap := h' }) :
    wpAny (model P w) A (do
        storeSet a es1 t2
        if (!dummy && t2.tooFull) = true then do
            give (relayAll t2 es1 (SetTable.grown es1.size)).2.2
            storeSet a (relayAll t2 es1 (SetTable.grown es1.size)).1 (relayAll t2 es1 (SetTable.grown es1.size)).2.1
            pure (some true)
          else pure (some true)) R E s := by
  refine wpAny_bind (wpAny_storeSet_of ho hd ?_ (fits_of_scanBound D.small))
  have o1 := store_at (es' := es1) (t' := t2) ho hd
  have u1 := Heap.SameBut.update s.heap a (Obj.putSet es1 t2)
  split
  · have pm := relayAll_perm t2 es1 (SetTable.grown es1.size)
    have ff := relayAll_fits t2 es1 (SetTable.grown es1.size)
    have rr := relayAll_ris t2 es1 (SetTable.grown es1.size)
    have ll := relayAll_led t2 es1 (SetTable.grown es1.size)
    generalize relayAll t2 es1 (SetTable.grown es1.size) = Z at pm ff rr ll ⊢
    obtain ⟨es2, t3, gave⟩ := Z
    dsimp only at pm ff rr ll ⊢
    have z2 : es2.size = es1.size := by rw [← Array.length_toList, pm.length_eq, Array.length_toList]
    have small : es2.size < scanBound := by rw [z2]; exact D.small
    refine wpAny_bind (free _ _ _ (wpAny_bind (wpAny_storeSet_of o1 rfl ?_ (fits_of_scanBound small))))
    have pk : (ksOf key es2.toList).Perm (ksOf key es1.toList) := pm.map _
    exact wpAny_pure (hR _ (u1.trans (Heap.SameBut.update _ a _)) ⟨_, es2, _, t3, store_at (es' := es2) (t' := t3) o1 rfl, hex, rfl,
      ⟨fun e he => D.good e (pm.mem_iff.mp he), pk.nodup_iff.mpr D.nodup, fun k => (D.mem k).trans pk.mem_iff.symm, small, ff, z2.trans D.size, rr, D.led.imp id fun z => by rw [ll]; exact z⟩⟩)
  · exact wpAny_pure (hR _ u1 ⟨_, es1, _, t2, o1, hex, rfl, D⟩)
/-- an item put in -/
theorem put_one {x : Value} {Q : Bool → Shared → Prop} (gx : Gv knd key x) (R : SetG knd key s.heap a S n) (room : n + 1 < scanBound)
    (hQ : ∀ h', Heap.SameBut a s.heap h' → SetG knd key h' a (fun j => S j || decide (j = key x)) (if S (key x) = true then n else n + 1) → Q (!S (key x)) { s with heap := h' }) :
    wpAny (model P w) A (setAddHashed a x (knd.hash (key x))) Q E s := by
  obtain ⟨o, es, ep, t, ho, hex, hd, D⟩ := R
  have el := elems_of D.good
  unfold setAddHashed setAddHashedIn
  refine wpAny_holding (wpAny_bind (wpAny_setState_of ho hd D.fits ?_))
  dsimp only
  rw [byScan_of gx.2 D.small el]
  simp only [↓reduceIte]
  unfold setAddByScan
  refine wpAny_bind (wpAny_bind (wpAny_rule (wpAny_bind (wpAny_setScan_of gx.1 ho hd D.fits el ?_))))
  cases found : List.findIdx? (fun e => knd.is (key x) e.2) es.toList with
  | some j =>
    dsimp only
    obtain ⟨hj, pj, _⟩ := List.findIdx?_eq_some_iff_getElem.mp found
    have yes : S (key x) = true := (D.mem _).2 ((ks_mem D.good _).2 ⟨es.toList[j], List.getElem_mem hj, pj⟩)
    refine wpAny_pure (wpAny_pure ?_)
    have q := hQ s.heap (Heap.SameBut.refl a s.heap) ⟨o, es, ep, t, ho, hex, hd, ⟨D.good, D.nodup, fun i => by
      rw [Bool.or_eq_true, decide_eq_true_eq, ← D.mem i]
      exact ⟨fun z => z.elim id (fun e => e ▸ yes), .inl⟩, D.small, D.fits, by rw [if_pos yes]; exact D.size, D.ris, D.led⟩⟩
    rw [yes] at q
    exact q
  | none =>
    dsimp only
    have new : key x ∉ ksOf key es.toList := fun z => by
      obtain ⟨e, he, q⟩ := (ks_mem D.good _).1 z
      have c := List.findIdx?_eq_none_iff.mp found e he
      rw [q] at c
      cases c
    have no : S (key x) = false := Bool.eq_false_iff.mpr fun q => new ((D.mem _).1 q)
    have tell : ∀ (b : Bool) {s1 : Shared} {Q' : Unit → Shared → Prop}, Q' () s1 → wpAny (model P w) A (match b with | true => rule "set.scan.the-table-gave-way" | false => pure ()) Q' E s1 :=
      fun b s1 Q' q => by cases b <;> first | exact wpAny_pure q | exact wpAny_rule q
    have pm := layNew_perm t es (knd.hash (key x)) x
    have ff := layNew_fits t es (knd.hash (key x)) x
    have rr := layNew_ris t es (knd.hash (key x)) x D.ris
    have ll := layNew_led t es (knd.hash (key x)) x
    generalize layNew t es (knd.hash (key x)) x = Z at pm ff rr ll ⊢
    obtain ⟨es1, t1, dummy, gave⟩ := Z
    dsimp only at pm ff rr ll ⊢
    rw [Array.toList_push] at pm
    have pc : es1.toList.Perm ((knd.hash (key x), x) :: es.toList) := pm.trans (List.perm_append_singleton _ _)
    have pk : (ksOf key es1.toList).Perm (key x :: ksOf key es.toList) := pc.map _
    have z1 : es1.size = n + 1 := by rw [← Array.length_toList, pc.length_eq, List.length_cons, Array.length_toList, D.size]
    have lead : w.params.followText "set-order" = true ∨ t1.led = true := D.led.imp id fun z => by rw [ll]; exact z
    have D1 : ∀ t2 : SetTable, t2.fits es1.size = true → Ris t2.place.toList → (w.params.followText "set-order" = true ∨ t2.led = true) → SetD knd key (fun j => S j || decide (j = key x)) (n + 1) es1 t2 := fun t2 f2 r2 l2 =>
      ⟨fun e he => (List.mem_cons.mp (pc.mem_iff.mp he)).elim (fun z => by rw [z]; exact ⟨gx, rfl⟩) (D.good e), pk.nodup_iff.mpr (List.nodup_cons.mpr ⟨new, D.nodup⟩), fun i => by
        rw [Bool.or_eq_true, decide_eq_true_eq, D.mem i, pk.mem_iff, List.mem_cons]
        exact Or.comm, by rw [z1]; exact room, f2, z1, r2, l2⟩
    have fin : ∀ h', Heap.SameBut a s.heap h' → SetG knd key h' a (fun j => S j || decide (j = key x)) (n + 1) → Q true { s with heap := h' } := fun h' sb r => by
      have q := hQ h' sb
      rw [no] at q
      exact q r
    refine wpAny_bind (tell _ ?_)
    split
    · refine wpAny_bind ?_
      rw [hashByValue_scannable 8 gx.2]
      refine wpAny_pure (put_all ?_ ho hex hd (D1 _ ?_ ?_ ?_) fun h' sb r => ?_)
      · intro b s1 Q' q; cases b <;> first | exact wpAny_pure q | exact wpAny_rule q
      · first | (split <;> first | exact ff | exact SetTable.fits_plain_off ff) | exact ff
      · first | (split <;> exact rr) | exact rr
      · first | (split <;> exact lead) | exact lead
      · dsimp only
        exact wpAny_pure (fin h' sb r)
    · refine wpAny_bind (wpAny_pure ?_)
      simp only [↓reduceIte]
      refine put_all ?_ ho hex hd (D1 _ ff rr lead) fun h' sb r => ?_
      · intro b s1 Q' q; cases b <;> first | exact wpAny_pure q | exact wpAny_rule q
      · dsimp only
        exact wpAny_pure (fin h' sb r)
end
end Dw

/-! DwSetT: sets of texts in the hand layer. -/
namespace Dw
open PySem PySem.Spec PyProof.Rows L2
def keyS (v : Value) : Str := match v with
  | .str x _ => x
  | _ => Str.empty
theorem gv_str (P : Program) (w : World) (x : Str) (t : Tok) : Gv (PySem.strKind P w) keyS (.str x t) := ⟨strKind_is P w x t, rfl⟩
theorem gv_shape {P : Program} {w : World} {v : Value} (g : Gv (PySem.strKind P w) keyS v) : ∃ t, v = .str (keyS v) t := by
  obtain ⟨t, e⟩ := Value.isStrOf_shape (x := keyS v) (v := v) g.1
  exact ⟨t, e⟩
/-- the set of texts at a: S its members, n of them -/
def SetX (P : Program) (w : World) (a : Addr) (S : Str → Bool) (n : Nat) : HO := .ext fun h => SetG (PySem.strKind P w) keyS h a S n
section
variable {P : Program} {w : World} {H : Hp} {h : Heap} {a : Addr} {S : Str → Bool} {n : Nat}
theorem setX_new (R : SetG (PySem.strKind P w) keyS h a S n) : ObjOk P w H h a (SetX P w a S n) := by
  have R' := R
  obtain ⟨o, es, ep, t, ho, r⟩ := R'
  exact ⟨R, ⟨o, ho⟩, fun h1 h2 z k => z.at fun o q => k o q⟩
theorem setX_get {pins : List (Addr × Obj)} {σ : L2.St} {X : Cx} {s : Shared} (I : Inv X pins σ H s) (ha : H a = some (SetX X.prog X.w a S n)) : SetG (PySem.strKind X.prog X.w) keyS s.heap a S n := by
  have x : ObjOk X.prog X.w H s.heap a (.ext fun h => SetG (PySem.strKind X.prog X.w) keyS h a S n) := I.hok a _ ha
  exact x.1
theorem setX_own {x : Addr} : SetX P w a S n ≠ .own x := fun z => by
  have z' : HO.ext _ = HO.own x := z
  cases z'
end
theorem strs_are : ∀ {vs : List Value}, (∀ v ∈ vs, ∃ t, v = Value.str (keyS v) t) → StrsAre vs (vs.map keyS)
  | [], _ => .nil
  | v :: vs, h => by
    obtain ⟨t, e⟩ := h v List.mem_cons_self
    have ih := strs_are (vs := vs) fun u hu => h u (List.mem_cons_of_mem _ hu)
    rw [List.map_cons]
    have e2 : keyS v = keyS v := rfl
    generalize keyS v = x at e ⊢
    subst e
    exact .cons _ _ ih
/-- sorted(a set of texts), fewer than 64 members -/
def rSortedX (P : Program) (w : World) : List V → Hp → VK → Prop := fun vs H Q => ∃ (a : Addr) (S : Str → Bool) (n : Nat), vs = [V.ref a] ∧ H a = some (SetX P w a S n) ∧ n < 64 ∧
  ∀ (ys : List Str) (p : Addr), ys.Nodup → sortedS ys = true → (∀ k : Str, k ∈ ys ↔ S k = true) → ys.length = n → H p = none → Q (.ref p) (upd H p (.lst (ys.map V.str)))
theorem cr_sortedX {X : Cx} (hc : X.calm = true) : CallR X (.builtin "sorted") (rSortedX X.prog X.w) := by
  intro pins s σ H vs us Q I r h
  obtain ⟨a, S, n, rfl, ha, h64, q⟩ := h
  obtain ⟨o, es, ep, t, ho, hex, hd, D⟩ := setX_get I ha
  rw [Vals.ref1 r]
  refine Calls.call_function_entry kind_sorted plain_sorted entry_sorted (args_sorted1 _) ?_
  unfold Builtin.«sorted»
  refine wpAny_bind (m := checkCount "sorted" 1 1 _) (wpAny_pure ?_)
  refine wpAny_bind (collect_set (A := X.A.in1) (I.ok.hd hc) ⟨o, ho, hex.1, hd⟩ D.fits D.small D.ris D.led fun s1 vs k1 hz g1 o1 pm => ?_)
  have len : vs.length = n := by rw [pm.length_eq, List.length_map, Array.length_toList]; exact D.size
  have shape : ∀ v ∈ vs, ∃ t, v = Value.str (keyS v) t := fun v hv => by
    obtain ⟨e, he, q⟩ := List.mem_map.mp (pm.mem_iff.mp hv)
    rw [← q]
    exact gv_shape (D.good e he).1
  have hS := strs_are shape
  have pk : (vs.map keyS).Perm (ksOf keyS es.toList) := by
    have q := pm.map keyS
    rw [List.map_map] at q
    exact q
  refine wpAny_bind (wpAny_newList ?_ (by rw [len, sizeLine_eq]; omega))
  have hoL : (s1.heap.push (seqObj "list" vs.toArray 0)).get? s1.heap.objs.size = some (seqObj "list" vs.toArray 0) := Heap.get?_push_size _ rfl
  refine wpAny_bind (wpAny_holding (wpAny_call_entry slot_list_sort ⟨_, hoL, rfl⟩ entry_list_sort
    (list_sort_treeK strKind_oneLt hoL hS.keysOf (fun v1 v2 rest e => keyKind_strs (by rw [← e]; exact hS)) (by rw [len]; exact h64) fun st' hp hs => ⟨_, rfl, ?_⟩) (args_list_sort _)))
  obtain ⟨ys, y1, y2, y3⟩ := sorted_out_str hS hp hs
  obtain ⟨c, hcell⟩ := sortedHeap_at (vs := vs) (out := (arrOf st').map (·.2)) hoL
  have pn : ys.Perm (ksOf keyS es.toList) := y2.trans pk
  have yl : ys.length = n := by rw [pn.length_eq, List.length_map, Array.length_toList]; exact D.size
  have keep : ∀ b u, s.heap.get? b = some u → (sortedHeap (s1.heap.push (seqObj "list" vs.toArray 0)) s1.heap.objs.size vs ((arrOf st').map (·.2))).get? b = some u := fun b u e => by
    have q := k1 b u e
    have hlt := Heap.lt_size q
    rw [sortedHeap_old (Nat.ne_of_lt hlt) (by rw [size_push']; exact Nat.lt_succ_of_lt hlt)]
    exact Heap.get?_push_of_some _ q
  have fresh : H s1.heap.objs.size = none := I.hok.fresh hz
  have ok : ObjOk X.prog X.w (upd H s1.heap.objs.size (.lst (ys.map V.str))) _ s1.heap.objs.size (.lst (ys.map V.str)) := ⟨by rw [List.length_map, yl, sizeLine_eq]; omega, ((arrOf st').map (·.2)).toList, c, vals_of_strs y1, by rw [Array.toArray_toList]; exact hcell⟩
  have J : Inv X pins σ (upd H s1.heap.objs.size (.lst (ys.map V.str))) { s with heap := sortedHeap (s1.heap.push (seqObj "list" vs.toArray 0)) s1.heap.objs.size vs ((arrOf st').map (·.2)), gens := s1.gens, drawn := s1.drawn, toks := s1.toks } :=
    I.call (ch := []) (Un.laid keep hz fresh) (I.hok.laid keep hz ok) (by rw [g1]; exact I.bare) (fun _ z => nomatch z)
  refine wpAny_pure ⟨_, rfl, ?_⟩
  have fin : EP X pins σ Q (.ref s1.heap.objs.size) { s with heap := sortedHeap (s1.heap.push (seqObj "list" vs.toArray 0)) s1.heap.objs.size vs ((arrOf st').map (·.2)), gens := s1.gens, drawn := s1.drawn, toks := s1.toks } :=
    ⟨.ref s1.heap.objs.size, _, J, rfl, q ys _ (pn.nodup_iff.mpr D.nodup) y3 (fun k => by rw [pn.mem_iff]; exact (D.mem k).symm) yl fresh⟩
  obtain ⟨hp1, g, d, tk, os⟩ := s1
  cases o1
  exact fin
end Dw

set_option maxHeartbeats 400000
/-! DwSc2: a set made by two fors. -/
namespace Dw
open PySem PySem.Spec PyProof.Rows L2
abbrev SC2 (elt a0 b0 a1 b1 : Expr) (f0 f1 : List Expr) (sc : Scope) (p : Pos) : Expr := .SetComp elt [⟨a0, b0, f0, 0⟩, ⟨a1, b1, f1, 0⟩] sc p
/-- the tests of a clause, one after another -/
abbrev tests (fs : List Expr) (env : Env) : Sem Bool := forIn fs true fun c r => if r = true then do let z ← isTrue c env (eval c env); pure (ForInStep.yield z) else pure (ForInStep.yield r)
section
variable {elt a0 b0 a1 b1 : Expr} {f0 f1 : List Expr} {sc : Scope} {p : Pos} {it acc : Value} {env : Env}
theorem turn2_out : compTurn (SC2 elt a0 b0 a1 b1 f0 f1 sc p) 0 it acc env = (do
    standAt b0.pos
    match ← pyNext it with
    | none => pure (.done .next)
    | some v =>
      letOwnedTupleGo a0 it v
      assign a0 env v
      let ok ← tests f0 env
      if ok then
        let x ← eval b1 env
        standAt b1.pos
        let x ← foldedSetIterable b1 env x
        let _ ← runOwn (.compStart (SC2 elt a0 b0 a1 b1 f0 f1 sc p) 1 (← holding [x] (pyIter x)) acc env) env
      again (.compLoop (SC2 elt a0 b0 a1 b1 f0 f1 sc p) 0 it acc env)) := by rfl
theorem turn2_in : compTurn (SC2 elt a0 b0 a1 b1 f0 f1 sc p) 1 it acc env = (do
    standAt b1.pos
    match ← pyNext it with
    | none => pure (.done .next)
    | some v =>
      letOwnedTupleGo a1 it v
      assign a1 env v
      let ok ← tests f1 env
      if ok then
        (do let y ← eval elt env
            standAt elt.pos
            let _ ← call (.builtin "set.add") [acc, y])
      again (.compLoop (SC2 elt a0 b0 a1 b1 f0 f1 sc p) 1 it acc env)) := by rfl
end
section
variable {prog : Program} {w : World} {A : Around} {R : Result → Shared → Prop} {s : Shared} {elt a0 b0 a1 b1 : Expr} {f0 f1 : List Expr} {sc : Scope} {p : Pos} {it acc : Value} {env : Env}
/-- what an error leads to -/
abbrev Er (prog : Program) (w : World) (A : Around) (env : Env) (R : Result → Shared → Prop) : Value → Shared → Prop := notedBy (model prog w) A env fun e s' => R (.error e) s'
theorem s2_out (nofold : ∀ x, foldedSetIterable b1 env x = pure x) (J : Nat → Shared → Prop)
    (turn : ∀ n s, J n s → wpAny (model prog w) A (pyNext it) (fun
      | none, s1 => R (.ok .next) s1
      | some v, s1 => wpAny (model prog w) A (letOwnedTupleGo a0 it v) (fun _ s2 => wpAny (model prog w) A (assign a0 env v) (fun _ s3 => wpAny (model prog w) A (tests f0 env) (fun ok s4 =>
          if ok = true then wpAny (model prog w) A (eval b1 env) (fun x s5 => wpAny (model prog w) A (pyIter x) (fun it1 s6 =>
            codeAny (model prog w) A (.compStart (SC2 elt a0 b0 a1 b1 f0 f1 sc p) 1 it1 acc env) (fun
              | .ok _, s' => ∃ m, m < n ∧ J m s'
              | .error _, _ => False) s6) (Er prog w A env R) s5) (Er prog w A env R) s4
          else ∃ m, m < n ∧ J m s4) (Er prog w A env R) s3) (Er prog w A env R) s2) (Er prog w A env R) s1) (Er prog w A env R) s)
    (n : Nat) (h : J n s) : codeAny (model prog w) A (.compLoop (SC2 elt a0 b0 a1 b1 f0 f1 sc p) 0 it acc env) R s := by
  refine codeAny_loop rfl J (fun n s j => ?_) n h
  refine wpAny_noted ?_
  rw [turn2_out]
  refine wpAny_bind (wpAny_standAt (wpAny_bind (wpAny_mono (turn n s j) (fun r s1 z => ?_) fun _ _ q => q)))
  rcases r with _ | v
  · exact wpAny_pure z
  refine wpAny_bind (wpAny_mono z (fun _ s2 z => wpAny_bind (wpAny_mono z (fun _ s3 z => wpAny_bind (wpAny_mono z (fun ok s4 z => ?_) fun _ _ q => q)) fun _ _ q => q)) fun _ _ q => q)
  cases ok
  · exact wpAny_pure ⟨rfl, z⟩
  refine wpAny_bind (wpAny_mono z (fun x s5 z => wpAny_bind (wpAny_standAt (wpAny_bind (wpAny_of_eq (nofold x) (wpAny_bind (wpAny_holding (wpAny_mono z (fun it1 s6 z => ?_) fun _ _ q => q)))))) ) fun _ _ q => q)
  refine wpAny_bind (wpAny_runOwn ?_)
  rw [Around.mark_none]
  refine codeAny_mono z fun r s' q => ?_
  rcases r with e | f
  · exact q.elim
  · first
      | exact wpAny_pure ⟨rfl, q⟩
      | exact wpAny_bind (wpAny_pure (wpAny_pure ⟨rfl, q⟩))
theorem s2_in (J : Nat → Shared → Prop)
    (turn : ∀ n s, J n s → wpAny (model prog w) A (pyNext it) (fun
      | none, s1 => R (.ok .next) s1
      | some v, s1 => wpAny (model prog w) A (letOwnedTupleGo a1 it v) (fun _ s2 => wpAny (model prog w) A (assign a1 env v) (fun _ s3 => wpAny (model prog w) A (tests f1 env) (fun ok s4 =>
          if ok = true then wpAny (model prog w) A (eval elt env) (fun y s5 => wpAny (model prog w) A (call (.builtin "set.add") [acc, y]) (fun _ s6 => ∃ m, m < n ∧ J m s6) (Er prog w A env R) s5) (Er prog w A env R) s4
          else ∃ m, m < n ∧ J m s4) (Er prog w A env R) s3) (Er prog w A env R) s2) (Er prog w A env R) s1) (Er prog w A env R) s)
    (n : Nat) (h : J n s) : codeAny (model prog w) A (.compLoop (SC2 elt a0 b0 a1 b1 f0 f1 sc p) 1 it acc env) R s := by
  refine codeAny_loop rfl J (fun n s j => ?_) n h
  refine wpAny_noted ?_
  rw [turn2_in]
  refine wpAny_bind (wpAny_standAt (wpAny_bind (wpAny_mono (turn n s j) (fun r s1 z => ?_) fun _ _ q => q)))
  rcases r with _ | v
  · exact wpAny_pure z
  refine wpAny_bind (wpAny_mono z (fun _ s2 z => wpAny_bind (wpAny_mono z (fun _ s3 z => wpAny_bind (wpAny_mono z (fun ok s4 z => ?_) fun _ _ q => q)) fun _ _ q => q)) fun _ _ q => q)
  cases ok
  · exact wpAny_pure ⟨rfl, z⟩
  exact wpAny_bind (wpAny_bind (wpAny_mono z (fun y s5 z => wpAny_bind (wpAny_standAt (wpAny_bind (wpAny_mono z (fun _ s6 q => wpAny_pure (wpAny_pure ⟨rfl, q⟩)) fun _ _ q => q)))) fun _ _ q => q))
/-- the second clause's start -/
theorem s2_start (h0 : codeAny (model prog w) A (.compLoop (SC2 elt a0 b0 a1 b1 f0 f1 sc p) 1 it acc env) R s)
    (h : wpAny (model prog w) A (pyIter it) (fun jt s' => codeAny (model prog w) A (.compLoop (SC2 elt a0 b0 a1 b1 f0 f1 sc p) 1 jt acc env) R s') (Er prog w A env R) s) :
    codeAny (model prog w) A (.compStart (SC2 elt a0 b0 a1 b1 f0 f1 sc p) 1 it acc env) R s := by
  refine codeAny_of_tree (wpAny_notedAt ?_)
  unfold compStart
  refine wpAny_bind (m := ask) (wpAny_askSetting (wpAny_ite ?_))
  split
  · first
      | exact wpAny_pure ⟨rfl, h0⟩
      | exact wpAny_bind (wpAny_pure (wpAny_pure ⟨rfl, h0⟩))
  · refine wpAny_bind (wpAny_rule ?_)
    exact wpAny_bind (m := standAt b1.pos) (wpAny_standAt (wpAny_bind (wpAny_mono h (fun _ _ q => wpAny_pure ⟨rfl, q⟩) fun _ _ q => q)))
end
theorem put_str {P : Program} {w : World} {A : Around} {E : Value → Shared → Prop} {s : Shared} {a : Addr} {S : Str → Bool} {n : Nat} {y : Str} {t : Tok} {Q : Bool → Shared → Prop} (R : SetG (PySem.strKind P w) keyS s.heap a S n) (room : n + 1 < scanBound)
    (hQ : ∀ h', Heap.SameBut a s.heap h' → SetG (PySem.strKind P w) keyS h' a (fun j => S j || decide (j = y)) (if S y = true then n else n + 1) → Q (!S y) { s with heap := h' }) :
    wpAny (model P w) A (setAddHashed a (.str y t) ((PySem.strKind P w).hash y)) Q E s := by
  have e : keyS (.str y t) = y := rfl
  have z := put_one (A := A) (E := E) (Q := Q) (gv_str P w y t) R room
  rw [e] at z
  exact z hQ
section
variable {X : Cx} {pins : List (Addr × Obj)} {σ : L2.St} {H : Hp} {s : Shared}
/-- a text put into a tracked set of texts -/
theorem addX_ok {E : Value → Shared → Prop} {D : Addr} {S : Str → Bool} {n : Nat} {y : Str} {v : Value} {Q : Value → Shared → Prop} (I : Inv X pins σ H s) (hD : H D = some (SetX X.prog X.w D S n)) (room : n + 1 < scanBound) (r : RelV (.str y) v)
    (h : ∀ s', Inv X pins σ (upd H D (SetX X.prog X.w D (fun j => S j || decide (j = y)) (if S y = true then n else n + 1))) s' → Q .none s') : wpAny (model X.prog X.w) X.A (call (.builtin "set.add") [.ref D, v]) Q E s := by
  obtain ⟨t, rfl⟩ : ∃ t, v = .str y t := r
  have R := setX_get I hD
  have z := R.setOf
  refine wpAny_call_entry F.slot_set_add z.typeIs F.entry_set_add ?_ (F.args_set_add_2 _ _)
  unfold Builtin.«set.add» Builtin.Frozenset.oneOther
  simp only [List.isEmpty_nil, bind_assoc]
  unfold Builtin.Frozenset.addrOf setAdd
  refine wpAny_bind (wpAny_pure (wpAny_bind (wpAny_pure (wpAny_bind (wpAny_holding (wpAny_bind ((PySem.strKind X.prog X.w).pyHash (strKind_is X.prog X.w y t) ?_)))))))
  refine put_str (s := { s with toks := s.toks + 1 }) R room fun h' sb new => ?_
  have he : ∃ u, h'.get? D = some u := by
    obtain ⟨o, _, _, _, ho, _⟩ := new
    exact ⟨o, ho⟩
  have J := I.write (t' := s.toks + 1) (by rw [hD]; trivial) (.inl rfl) (fun b u hb q => (sb.2 b hb).trans q) he (setX_new (H := upd H D (SetX X.prog X.w D (fun j => S j || decide (j = y)) (if S y = true then n else n + 1))) new)
  show wpAny _ _ (ret Value.none) _ _ _
  exact wpAny_pure ⟨_, rfl, h _ J⟩
end
end Dw

set_option maxHeartbeats 1000000
/-! DwSc3: {text for .. in .. if .. for .. in .. if ..} in the hand layer. -/
namespace Dw
open PySem PySem.Spec PyProof.Rows L2 PpSet
/-- in whatever block the comprehension is run -/
abbrev Blk (X : Cx) (sc : Scope) (F : Cx → Prop) : Prop := ∀ (t : Shared) (K : Hp) (c : Addr) (m : List (Str × Addr)) (fp : List Addr), F (X.blk t K sc (compEnvC sc m c X.env) fp)
/-- the text y goes into the set D, and N is reached -/
abbrev putX (P : Program) (w : World) (D : Addr) (N : Hp → Prop) : V → Hp → Prop := fun y K => ∃ (c : Str) (S : Str → Bool) (n : Nat), y = .str c ∧ K D = some (SetX P w D S n) ∧ n + 1 < scanBound ∧
  N (upd K D (SetX P w D (fun j => S j || decide (j = c)) (if S c = true then n else n + 1)))
/-- the inner loop, from behind the outer tests to N -/
def tIn (P : Program) (w : World) (i1 : TI) (g1 : TG) (t1 : TT) (te : TE) (vs1 : List Nat) (D : Addr) (N : Hp → Prop) (σ : L2.St) (K : Hp) : Prop :=
  i1 σ K fun J K1 => ∃ W : Nat → Nat → Hp → Prop, (∃ m, W 0 m K1) ∧ ∀ j k K2, W j k K2 → (J.stop j K2 ∧ N K2) ∨ (J.go j K2 ∧ ∃ M : Hp → Prop, (∀ K3, M K3 → ∃ k', k' < k ∧ W (j + 1) k' K3) ∧
    ∀ x K3, J.yld j K2 x K3 → g1 x (wipe σ vs1) K3 fun σ3 K4 => wipe σ3 vs1 = wipe σ vs1 ∧ t1 σ3 K4 fun b K5 => if b = true then te σ3 K5 (putX P w D M) else M K5)
def tSx2 (P : Program) (w : World) (i0 : TI) (g0 : TG) (t0 : TT) (i1 : TI) (g1 : TG) (t1 : TT) (te : TE) (vs vs1 : List Nat) : TE := fun σ H Q =>
  i0 σ H fun J K => ∀ D, K D = none → ∃ W : Nat → Nat → Hp → Prop, (∃ m, W 0 m (upd K D (SetX P w D (fun _ => false) 0))) ∧ ∀ j k K1, W j k K1 → (J.stop j K1 ∧ Q (.ref D) K1) ∨ (J.go j K1 ∧ ∃ N : Hp → Prop, (∀ K2, N K2 → ∃ k', k' < k ∧ W (j + 1) k' K2) ∧
    ∀ x K2, J.yld j K1 x K2 → g0 x (wipe σ vs) K2 fun σ2 K3 => wipe σ2 vs = wipe σ vs ∧ t0 σ2 K3 fun b K4 => if b = true then tIn P w i1 g1 t1 te vs1 D N σ2 K4 else N K4)
section
variable {X : Cx} {pins : List (Addr × Obj)} {σ : L2.St} {H : Hp} {s : Shared} {elt a0 b0 a1 b1 : Expr} {f0 f1 : List Expr} {sc : Scope} {p : Pos} {own : List (Str × Nat)} {vs1 : List Nat} {i0 i1 : TI} {g0 g1 : TG} {t0 t1 : TT} {te : TE}
theorem sx2_core {Q : VK} {p' : Pos} {use : Option (Value → Sem Unit)} {Qf : Value → Shared → Prop} (calm : X.calm = true) (nd : X.N.Nodup) (I : Inv X pins σ H s) (src : PI X a0 b0 i0) (ok : BlkOk X.N X.env.scope sc own) (sub : ∀ i ∈ vs1, i ∈ own.map (·.2))
    (hg : Blk X sc fun Y => PG Y a0 g0) (ht : Blk X sc fun Y => PTs Y f0 t0) (src1 : Blk X sc fun Y => PI Y a1 b1 i1) (hg1 : Blk X sc fun Y => PG Y a1 g1) (ht1 : Blk X sc fun Y => PTs Y f1 t1) (he : Blk X sc fun Y => PE Y elt te)
    (nf : ∀ x, foldedSetIterable b0 X.env x = pure x) (nf1 : ∀ e x, foldedSetIterable b1 e x = pure x) (h : tSx2 X.prog X.w i0 g0 t0 i1 g1 t1 te (own.map (·.2)) vs1 σ H Q)
    (out : ∀ D C s' m K, Inv X pins σ K s' → Q (.ref D) K → s'.heap.Ns C m → FpOk X pins K C → compPost (model X.prog X.w) X.A X.xe use Qf (.ref D) C (.ok .next) s') :
    wpAny (model X.prog X.w) X.A (comprehension (SC2 elt a0 b0 a1 b1 f0 f1 sc p) sc X.env p' (newSet (.type "set")) false (eval b0 X.env) use) Qf X.xe s := by
  have free : ∀ y ∈ sc.names, y.2 = .free → ∃ c, X.env.cells.lookup y.1 = some c := fun y hy e => (ok.free y hy e).elim (fun k => I.ok.has _ (.inl k)) fun k => I.ok.has _ (.inr k)
  refine wpAny_comprehension_free (use := use) rfl nf (closure_ok free) ok.kind (fun y hy e => by rw [ok.uniq y hy, e]) (thn (src.run pins s σ H _ I h) fun xv s1 hx => thn hx fun itv s2 z => ?_)
  obtain ⟨it, fp, tn, J, H2, rfl, I2, T, st2, f2, q⟩ := z
  refine newSet_ok (newEnv_comp ?_)
  generalize hD : s2.heap.objs.size = D
  have freeD : H2 D = none := I2.hok.fresh (Nat.le_of_eq hD)
  obtain ⟨W, ⟨m0, w0⟩, turn⟩ := q D freeD
  -- the new set
  generalize hs3 : ({ s2 with heap := s2.heap.push { cls := .type "set", dict := none, data := .set #[] 0 (.fresh 0 0 (!X.w.params.followText "set-order")) } } : Shared) = s3
  have I3 : Inv X pins σ (upd H2 D (SetX X.prog X.w D (fun _ => false) 0)) s3 := by
    subst hs3 hD
    exact I2.laid (t' := s2.toks) (fun b o e => Heap.get?_push_of_some _ e) (Nat.le_refl _) (setX_new setG_fresh)
  have h3 : s3.heap = s2.heap.push { cls := .type "set", dict := none, data := .set #[] 0 (.fresh 0 0 (!X.w.params.followText "set-order")) } := hs3 ▸ rfl
  have f3 : ∀ b ∈ fp, FpOk X pins (upd H2 D (SetX X.prog X.w D (fun _ => false) 0)) b ∧ b < s3.heap.objs.size := fun b hb => by
    obtain ⟨o, e, _⟩ := T.obj _ _ st2 b hb
    have lt := Heap.lt_size e
    exact ⟨⟨by rw [upd_ne (hD ▸ Nat.ne_of_lt lt)]; exact (f2 b hb).1, (f2 b hb).2⟩, by rw [h3, Heap.size_push]; exact Nat.lt_succ_of_lt lt⟩
  have st3 : tn 0 s3.heap := T.keep _ _ _ st2 fun b _ o e => by rw [h3]; exact Heap.get?_push_of_some _ e
  have I4 := block_start I3 ok nd f3
  generalize hH3 : upd H2 D (SetX X.prog X.w D (fun _ => false) 0) = H3 at I3 I4 w0 f3
  generalize hcl : cellsFrom (s3.heap.objs.size + 1) sc.names (cloFrom X.env.cells sc.names []) = cl at I4 ⊢
  have pg := hg s3 H3 s3.heap.objs.size cl fp
  have pt := ht s3 H3 s3.heap.objs.size cl fp
  have pi1 := src1 s3 H3 s3.heap.objs.size cl fp
  have pg1 := hg1 s3 H3 s3.heap.objs.size cl fp
  have pt1 := ht1 s3 H3 s3.heap.objs.size cl fp
  have pe := he s3 H3 s3.heap.objs.size cl fp
  have cL : (compEnvC sc cl s3.heap.objs.size X.env).locals = s3.heap.objs.size := rfl
  show codeAny _ _ (.compStart (SC2 elt a0 b0 a1 b1 f0 f1 sc p) 0 (.ref it) (.ref D) (compEnvC sc cl s3.heap.objs.size X.env)) (compPost (model X.prog X.w) X.A X.xe use Qf (.ref D) s3.heap.objs.size) { s3 with heap := pushCells (s3.heap.push { cls := .type "dict", data := .dict #[] }) sc.names }
  generalize hs4 : ({ s3 with heap := pushCells (s3.heap.push { cls := .type "dict", data := .dict #[] }) sc.names } : Shared) = s4 at I4 ⊢
  generalize compEnvC sc cl s3.heap.objs.size X.env = ce at I4 pg pt pi1 pg1 pt1 pe cL ⊢
  have st4 : tn 0 s4.heap := T.keep _ _ _ st3 fun b _ o e => by rw [← hs4]; exact pushCells_keeps _ _ _ _ (Heap.get?_push_of_some _ e)
  -- what stays apart from all that is tracked
  have apart : ∀ {σ' : L2.St} {K : Hp} {s' : Shared}, Inv (X.blk s3 H3 sc ce fp) [] σ' K s' → (∀ b ∈ fp, K b = none) → ∀ b ∈ fp, FpOk (X.blk s3 H3 sc ce fp) [] K b := fun {σ' K s'} J' hn b hb =>
    ⟨hn b hb, (J'.ok.exf b hb).1, J'.ok.exfs b hb, .inl hb, fun x c e => (J'.ok.exf b hb).2 x c e, fun q hq => absurd (show q ∈ ([] : List (Addr × Obj)) ++ [] from hq) (by simp)⟩
  have loop : codeAny (model X.prog X.w) X.A (.compLoop (SC2 elt a0 b0 a1 b1 f0 f1 sc p) 0 (.ref it) (.ref D) ce) (compPost (model X.prog X.w) X.A X.xe use Qf (.ref D) s3.heap.objs.size) s4 := by
    refine s2_out (nf1 ce) (fun n s' => ∃ i K, Inv (X.blk s3 H3 sc ce fp) [] (wipe σ (own.map (·.2))) K s' ∧ tn i s'.heap ∧ (∀ b ∈ fp, K b = none) ∧ W i n K) ?_ m0 ⟨0, H3, I4, st4, fun b hb => (f3 b hb).1.1, w0⟩
    rintro n s5 ⟨i, H5, I5, st5, n5, w5⟩
    rcases turn i n H5 w5 with ⟨stop, qq⟩ | ⟨go, N, hN, step⟩
    · refine thnF (T.done (X.blk s3 H3 sc ce fp) rfl rfl rfl calm i [] s5 _ H5 (fun _ _ => False) I5 (apart I5 n5) st5 stop) fun r s6 ⟨hr, I6⟩ => ?_
      subst hr
      have nC : H5 s3.heap.objs.size = none := by
        have z : H5 ce.locals = none := I6.free
        rw [cL] at z
        exact z
      obtain ⟨m, hn, _⟩ := I6.loc
      have hn : s6.heap.Ns ce.locals m := hn
      rw [cL] at hn
      exact out D _ s6 m H5 (I3.call' (ch := fp) I6.os I6.base I6.hok I6.bare fun b hb => let z := (f3 b hb).1.2; ⟨z.2.2.1, z.1, z.2.2.2.1, z.2.2.2.2⟩) qq hn (I3.fpOk (Nat.le_refl _) nC)
    · refine thnF (T.item (X.blk s3 H3 sc ce fp) rfl rfl rfl calm i [] s5 _ H5 (fun _ _ => False) I5 (apart I5 n5) st5 go) fun r s6 ⟨u, hr, h6⟩ => ?_
      subst hr
      refine thnF h6 fun _ s7 ⟨x, H7, I7, r7, y7, st7, n7⟩ => ?_
      have I7' := I7.pinned (apart I7 n7) (T.obj _ _ st7)
      refine thnF (pg.run _ s7 _ H7 x u _ I7' r7 (step x H7 y7)) fun _ s8 ⟨σ8, H8, I8, hw8, q8⟩ => ?_
      refine thnF (pt.run _ s8 σ8 H8 _ I8 q8) fun b s9 ⟨H9, I9, q9⟩ => ?_
      have fin : ∀ {σ9 : L2.St} {s' : Shared} {K : Hp}, Inv (X.blk s3 H3 sc ce fp) ([] ++ pinsAt fp s7.heap) σ9 K s' → (wipe σ (own.map (·.2))).length = σ9.length → (∀ (j : Nat) v, (wipe σ (own.map (·.2)))[j]? = some (some v) → σ9[j]? = some (some v)) → N K →
          ∃ m, m < n ∧ ∃ i K, Inv (X.blk s3 H3 sc ce fp) [] (wipe σ (own.map (·.2))) K s' ∧ tn i s'.heap ∧ (∀ b ∈ fp, K b = none) ∧ W i m K := fun {σ9 s' K} J' hl hk nx => by
        obtain ⟨m', hm, w'⟩ := hN K nx
        have still : ∀ b ∈ fp, ∀ o, s7.heap.get? b = some o → s'.heap.get? b = some o ∧ K b = none := fun b hb o e =>
          let z := J'.pin (b, o) (List.mem_append_right _ (List.mem_append_right _ (mem_pinsAt hb e)))
          ⟨z.1, z.2.1⟩
        exact ⟨m', hm, i + 1, K, (J'.unpinned (pins := [])).weak hl hk, T.keep _ _ _ st7 fun b hb o e => (still b hb o e).1, fun b hb => let ⟨o, e, _⟩ := T.obj _ _ st7 b hb; (still b hb o e).2, w'⟩
      have hl8 : (wipe σ (own.map (·.2))).length = σ8.length := by rw [← hw8, wipe_length]
      have hk8 : ∀ (j : Nat) v, (wipe σ (own.map (·.2)))[j]? = some (some v) → σ8[j]? = some (some v) ∧ j ∉ own.map (·.2) := fun j v e => by
        rw [← hw8] at e
        exact wipe_some e
      cases b with
      | false => exact fin I9 hl8 (fun j v e => (hk8 j v e).1) q9
      | true =>
        have q9 : tIn X.prog X.w i1 g1 t1 te vs1 D N σ8 H9 := q9
        show wpAny _ _ (eval b1 ce) _ _ _
        refine thnF (pi1.run _ s9 σ8 H9 _ I9 q9) fun xv s10 hx => thnF hx fun itv s11 h11 => ?_
        obtain ⟨jt, fq, tm, J1, H11, rfl, I11, T1, st11, f11, W1, ⟨m1, w1⟩, turn1⟩ := h11
        have apart1 : ∀ {K : Hp}, (∀ b ∈ fq, K b = none) → ∀ b ∈ fq, FpOk (X.blk s3 H3 sc ce fp) ([] ++ pinsAt fp s7.heap) K b := fun hn b hb => ⟨hn b hb, (f11 b hb).2⟩
        have inner : codeAny (model X.prog X.w) X.A (.compLoop (SC2 elt a0 b0 a1 b1 f0 f1 sc p) 1 (.ref jt) (.ref D) ce) (fun
            | .ok _, s' => ∃ m, m < n ∧ ∃ i K, Inv (X.blk s3 H3 sc ce fp) [] (wipe σ (own.map (·.2))) K s' ∧ tn i s'.heap ∧ (∀ b ∈ fp, K b = none) ∧ W i m K
            | .error _, _ => False) s11 := by
          refine s2_in (fun k s' => ∃ j K, Inv (X.blk s3 H3 sc ce fp) ([] ++ pinsAt fp s7.heap) (wipe σ8 vs1) K s' ∧ tm j s'.heap ∧ (∀ b ∈ fq, K b = none) ∧ W1 j k K) ?_ m1 ⟨0, H11, I11.weak (wipe_length _ _) (fun j v e => (wipe_some e).1), st11, fun b hb => (f11 b hb).1, w1⟩
          rintro k s12 ⟨j, H12, I12, st12, n12, w12⟩
          rcases turn1 j k H12 w12 with ⟨stop1, nx1⟩ | ⟨go1, M, hM, step1⟩
          · refine thnF (T1.done (X.blk s3 H3 sc ce fp) rfl rfl rfl calm j _ s12 (wipe σ8 vs1) H12 (fun _ _ => False) I12 (apart1 n12) st12 stop1) fun r s13 ⟨hr, I13⟩ => ?_
            subst hr
            exact fin I13 (hl8.trans (wipe_length σ8 vs1).symm) (fun j v e => by
              obtain ⟨e1, e2⟩ := hk8 j v e
              rw [wipe_out fun z => e2 (sub j z)]
              exact e1) nx1
          · refine thnF (T1.item (X.blk s3 H3 sc ce fp) rfl rfl rfl calm j _ s12 (wipe σ8 vs1) H12 (fun _ _ => False) I12 (apart1 n12) st12 go1) fun r s13 ⟨u1, hr, h13⟩ => ?_
            subst hr
            refine thnF h13 fun _ s14 ⟨x1, H14, I14, r14, y14, st14, n14⟩ => ?_
            have I14' := I14.pinned (apart1 n14) (T1.obj _ _ st14)
            refine thnF (pg1.run _ s14 (wipe σ8 vs1) H14 x1 u1 _ I14' r14 (step1 x1 H14 y14)) fun _ s15 ⟨σ15, H15, I15, hw15, q15⟩ => ?_
            refine thnF (pt1.run _ s15 σ15 H15 _ I15 q15) fun c s16 ⟨H16, I16, q16⟩ => ?_
            have fin1 : ∀ {s' : Shared} {K : Hp}, Inv (X.blk s3 H3 sc ce fp) (([] ++ pinsAt fp s7.heap) ++ pinsAt fq s14.heap) σ15 K s' → M K → ∃ m, m < k ∧ ∃ j K, Inv (X.blk s3 H3 sc ce fp) ([] ++ pinsAt fp s7.heap) (wipe σ8 vs1) K s' ∧ tm j s'.heap ∧ (∀ b ∈ fq, K b = none) ∧ W1 j m K := fun {s' K} J' nx => by
              obtain ⟨m', hm, w'⟩ := hM K nx
              have still : ∀ b ∈ fq, ∀ o, s14.heap.get? b = some o → s'.heap.get? b = some o ∧ K b = none := fun b hb o e =>
                let z := J'.pin (b, o) (List.mem_append_right _ (List.mem_append_right _ (mem_pinsAt hb e)))
                ⟨z.1, z.2.1⟩
              exact ⟨m', hm, j + 1, K, J'.unpinned.weak (by rw [← hw15, wipe_length]) (fun j v e => by rw [← hw15] at e; exact (wipe_some e).1), T1.keep _ _ _ st14 fun b hb o e => (still b hb o e).1, fun b hb => let ⟨o, e, _⟩ := T1.obj _ _ st14 b hb; (still b hb o e).2, w'⟩
            cases c with
            | false => exact fin1 I16 q16
            | true =>
              have q16 : te σ15 H16 (putX X.prog X.w D M) := q16
              show wpAny _ _ (eval elt ce) _ _ _
              refine thnF (pe.run _ s16 σ15 H16 _ I16 q16) fun z s17 ⟨yv, H17, I17, r17, c1, S0, n0, ey, hD17, room, nx⟩ => ?_
              subst ey
              exact addX_ok (X := X.blk s3 H3 sc ce fp) I17 hD17 room r17 fun s18 I18 => fin1 I18 nx
        exact s2_start inner (T1.self X.A 0 _ _ _ st11 inner)
  exact codeAny_compStart_set loop (T.self X.A 0 _ _ _ st4 loop)
/-- as a value -/
theorem pe_sx2 (calm : X.calm = true) (nd : X.N.Nodup) (src : PI X a0 b0 i0) (ok : BlkOk X.N X.env.scope sc own) (sub : ∀ i ∈ vs1, i ∈ own.map (·.2))
    (hg : Blk X sc fun Y => PG Y a0 g0) (ht : Blk X sc fun Y => PTs Y f0 t0) (src1 : Blk X sc fun Y => PI Y a1 b1 i1) (hg1 : Blk X sc fun Y => PG Y a1 g1) (ht1 : Blk X sc fun Y => PTs Y f1 t1) (he : Blk X sc fun Y => PE Y elt te)
    (nf : ∀ x, foldedSetIterable b0 X.env x = pure x := by intro _; rfl) (nf1 : ∀ e x, foldedSetIterable b1 e x = pure x := by intro _ _; rfl) :
    PE X (SC2 elt a0 b0 a1 b1 f0 f1 sc p) (tSx2 X.prog X.w i0 g0 t0 i1 g1 t1 te (own.map (·.2)) vs1) := by
  refine ⟨fun pins s σ H Q I h => ?_⟩
  rw [eval_SetComp]
  refine sx2_core calm nd I src ok sub hg ht src1 hg1 ht1 he nf nf1 h fun D C s' m K J q hn f => ⟨m, hn, fun _ sb => ?_⟩
  obtain ⟨z0, z1, z2, z3, z4, z5⟩ := f
  exact ⟨.ref D, K, J.turned (t' := s'.toks) (fun b o hb e => (sb.2 b hb).trans e) z0 z1 z3 z4 z5, rfl, q⟩
end
end Dw

set_option maxHeartbeats 1000000
/-! DwSc4: sorted({text for .. in .. for .. in ..}) over data. -/
namespace Dw
open PySem PySem.Spec PyProof.Rows L2
theorem len_sub : ∀ {l B : List Str}, l.Nodup → (∀ x ∈ l, x ∈ B) → l.length ≤ B.length
  | [], _, _, _ => Nat.zero_le _
  | x :: l, B, nd, h => by
    obtain ⟨n1, n2⟩ := List.nodup_cons.mp nd
    have hx := h x List.mem_cons_self
    have z := len_sub (l := l) (B := B.erase x) n2 fun y hy => (List.mem_erase_of_ne fun e => n1 (by rw [← e]; exact hy)).mpr (h y (List.mem_cons_of_mem _ hy))
    rw [List.length_erase_of_mem hx] at z
    have p := List.length_pos_of_mem hx
    show l.length + 1 ≤ _
    omega
section
variable {M : Md} {O : List Addr} {r : List Sl} {σ : L2.St} {H : Hp} {P : Program} {w : World} {a : Addr}
theorem noMuX {S : Str → Bool} {n : Nat} (R : Rp M O r σ H) (h : H a = some (SetX P w a S n)) : noMu r a := fun j ys hj => by
  obtain ⟨_, _, us, e, _⟩ := R.slot j _ hj
  rw [h] at e
  cases e
theorem sm_over {o : HO} : Sm (nf M (a :: O)) H (upd H a o) := fun b u n e => by
  rw [upd_ne fun z => n (.inr (by rw [z]; exact List.mem_cons_self))]
  exact e
/-- one's own object, in no slot, is written -/
theorem Rp.over {o : HO} (R : Rp M (a :: O) r σ H) (n : noMu r a) : Rp M (a :: O) r σ (upd H a o) := by
  have f0 : M.H0 a = none := (R.own a List.mem_cons_self).1
  have nF : ¬ M.F0 a := fun z => M.tr a (M.f0 a z) f0
  refine ⟨fun b u z e => ?_, M.st H _ R.inv fun b u f e => ?_, fun b hb => ⟨(R.own b hb).1, ?_⟩, R.nod, R.len, fun j t ht => ?_, R.one⟩
  · have ne : b ≠ a := fun q => by
      rw [q, f0] at e
      cases e
    rw [upd_ne ne]
    exact R.sm b u z e
  · rw [upd_ne fun q => nF (by rw [← q]; exact f)]
    exact e
  · by_cases q : b = a
    · rw [q, upd_same]
      exact fun z => nomatch z
    · rw [upd_ne q]
      exact (R.own b hb).2
  · have h1 := R.slot j t ht
    cases t with
    | un => trivial
    | d x =>
      obtain ⟨u, e2, h2⟩ := h1
      exact ⟨u, e2, h2.mono sm_over⟩
    | mu l zs =>
      obtain ⟨e2, hl, us, h2, h3⟩ := h1
      refine ⟨e2, hl, us, ?_, h3.mono sm_over⟩
      rw [upd_ne fun z => n j zs (by rw [← z]; exact ht)]
      exact h2
/-- the texts acc stand in the set at a, as many as differ -/
def SxAt (P : Program) (w : World) (a : Addr) (acc : List Str) (H : Hp) : Prop := ∃ l : List Str, l.Nodup ∧ (∀ k, k ∈ l ↔ k ∈ acc) ∧ H a = some (SetX P w a (fun k => decide (k ∈ acc)) l.length)
theorem SxAt.put {acc : List Str} {c : Str} {l : List Str} (nd : l.Nodup) (hm : ∀ k, k ∈ l ↔ k ∈ acc) :
    SxAt P w a (acc ++ [c]) (upd H a (SetX P w a (fun j => (fun k => decide (k ∈ acc)) j || decide (j = c)) (if (fun k => decide (k ∈ acc)) c = true then l.length else l.length + 1))) := by
  have e : (fun j => (fun k => decide (k ∈ acc)) j || decide (j = c)) = fun k => decide (k ∈ acc ++ [c]) := funext fun j => by simp
  rw [e]
  by_cases h : c ∈ acc
  · exact ⟨l, nd, fun k => by
      rw [List.mem_append, List.mem_singleton, hm]
      exact ⟨.inl, fun z => z.elim id fun z => z ▸ h⟩, by rw [upd_same]; simp [h]⟩
  · exact ⟨c :: l, List.nodup_cons.mpr ⟨fun z => h ((hm c).1 z), nd⟩, fun k => by
      rw [List.mem_append, List.mem_singleton, List.mem_cons, hm]
      exact Or.comm, by rw [upd_same]; simp [h]⟩
end
section
variable {M : Md} {O : List Addr} {r : List Sl} {P : Program} {w : World} {i0 i1 : TI} {g0 g1 : TG} {t0 t1 : TT} {te : TE} {vs vs1 js js1 : List Nat} {k : D → Prop}
theorem de_sortedSx2 (B : List Str) (hB : B.length < 64) (hjs : ∀ j ∈ js, j ∈ vs) (hjs1 : ∀ j ∈ js1, j ∈ vs1)
    (h : DI M i0 O r fun xs => ∃ zs : List (List Str), zs.length = xs.length ∧ (∀ z ∈ zs, ∀ y ∈ z, y ∈ B) ∧
      (∀ (O' : List Addr) (i : Nat) (x : D) (z : List Str), xs[i]? = some x → zs[i]? = some z → DG M g0 js O' (wipeR r vs) x fun r2 => DT M t0 O' r2 fun b => b = true ∧ DI M i1 O' r2 fun us => us.length = z.length ∧
        ∀ (O2 : List Addr) (j : Nat) (u : D) (c : Str), us[j]? = some u → z[j]? = some c → DG M g1 js1 O2 (wipeR r2 vs1) u fun r3 => DT M t1 O2 r3 fun b => b = true ∧ De M te O2 r3 fun y => y = .str c) ∧
      ∀ ys : List Str, ys.Nodup → sortedS ys = true → (∀ k, k ∈ ys ↔ ∃ z ∈ zs, k ∈ z) → k (.lst (ys.map D.str))) :
    De M (tCB (rSortedX P w) (tCons (tSx2 P w i0 g0 t0 i1 g1 t1 te vs vs1) tNil)) O r k := fun σ H Q R0 z => by
  refine h σ H _ R0 fun J H1 xs W R1 e1 g1' q => ?_
  obtain ⟨zs, hl, sub, turn, fin⟩ := q
  intro A hA
  have inB : ∀ {i j : Nat} {c : List Str}, zs[i]? = some c → ∀ y ∈ (zs.take i).flatten ++ c.take j, y ∈ B := fun {i j c} hc y hy => by
    rcases List.mem_append.mp hy with hy | hy
    · obtain ⟨l, h1, h2⟩ := List.mem_flatten.mp hy
      exact sub l (List.mem_of_mem_take h1) y h2
    · exact sub c (List.mem_of_getElem? hc) y (List.mem_of_mem_take hy)
  have inB0 : ∀ {i : Nat}, ∀ y ∈ (zs.take i).flatten, y ∈ B := fun {i} y hy => by
    obtain ⟨l, h1, h2⟩ := List.mem_flatten.mp hy
    exact sub l (List.mem_of_mem_take h1) y h2
  refine ⟨fun i m H2 => m = xs.length - i ∧ i ≤ xs.length ∧ SxAt P w A (zs.take i).flatten H2 ∧ Rp M (A :: O) r σ H2 ∧ Sm M.F0 H1 H2 ∧ W.G (nf M (A :: O)) H2, ⟨xs.length, by simp, Nat.zero_le _, ⟨[], List.nodup_nil, by simp, by rw [upd_same]; simp⟩, R1.own1 hA, sm_0 (sm_new hA), W.mono _ _ _ (sm_0 (sm_new hA)) (W.gen _ _ _ (fun a ha => (plus_of a ha).imp id fun z => by rw [z]; exact hA) g1')⟩, ?_⟩
  rintro i m H2 ⟨rfl, hi, hS, R2, e2, g2⟩
  have nA : ¬ M.F0 A := fun z => M.tr A (M.f0 A z) (R2.own A List.mem_cons_self).1
  by_cases hlt : i < xs.length
  · obtain ⟨zi, hzi⟩ : ∃ c, zs[i]? = some c := ⟨_, List.getElem?_eq_getElem (by rw [hl]; exact hlt)⟩
    have hflat : (zs.take (i + 1)).flatten = (zs.take i).flatten ++ zi := by
      rw [List.take_add_one, hzi, List.flatten_append]
      simp
    refine .inr ⟨W.go _ _ i g2 hlt, _, fun K p => ⟨xs.length - (i + 1), by omega, rfl, hlt, p⟩, fun x H3 y => ?_⟩
    obtain ⟨s3, p3⟩ := W.yld _ _ i x H3 _ (nf_tr R2) g2 y (List.getElem?_eq_getElem hlt)
    have R3 := R2.grow s3
    refine turn (A :: O) i _ zi (List.getElem?_eq_getElem hlt) hzi x _ H3 _ (R3.wipe vs) p3 fun σ4 r4 R4 w4 q4 => ⟨by rw [w4 vs hjs, wipe_wipe fun _ h => h], q4 σ4 H3 _ R4 fun b H5 R5 e5 q5 => ?_⟩
    obtain ⟨rfl, q5⟩ := q5
    rw [if_pos rfl]
    have e35 : Sm M.F0 H2 H5 := (sm_0 s3).trans e5
    refine q5 σ4 H5 _ R5 fun J1 H6 us W1 R6 e6 g6 q6 => ?_
    obtain ⟨hus, step⟩ := q6
    have e26 : Sm M.F0 H2 H6 := e35.trans e6
    have up : ∀ {acc : List Str} {K K' : Hp}, Sm M.F0 K K' → SxAt P w A acc K → SxAt P w A acc K' := fun e ⟨l, a1, a2, a3⟩ => ⟨l, a1, a2, e A _ nA a3⟩
    refine ⟨fun j n K => n = us.length - j ∧ j ≤ us.length ∧ SxAt P w A ((zs.take i).flatten ++ zi.take j) K ∧ Rp M (A :: O) r σ K ∧ Rp M (A :: O) r4 σ4 K ∧ Sm M.F0 H1 K ∧ W.G (nf M (A :: O)) K ∧ W1.G (nf M (A :: O)) K,
      ⟨us.length, by simp, Nat.zero_le _, by simpa using up e26 hS, R2.step e26 R6.inv, R6, e2.trans e26, W.mono _ _ _ (e26.wide nf0) g2, g6⟩, ?_⟩
    rintro j n K ⟨rfl, hj, hT, Ra, Rb, e7, g7, g8⟩
    by_cases hjt : j < us.length
    · obtain ⟨c, hc⟩ : ∃ c, zi[j]? = some c := ⟨_, List.getElem?_eq_getElem (by rw [← hus]; exact hjt)⟩
      have hcat : (zs.take i).flatten ++ zi.take (j + 1) = ((zs.take i).flatten ++ zi.take j) ++ [c] := by
        rw [List.take_add_one, hc, List.append_assoc]
        simp
      refine .inr ⟨W1.go _ _ j g8 hjt, _, fun K' p => ⟨us.length - (j + 1), by omega, rfl, hjt, p⟩, fun x1 K3 y1 => ?_⟩
      obtain ⟨s8, p8⟩ := W1.yld _ _ j x1 K3 _ (nf_tr Rb) g8 y1 (List.getElem?_eq_getElem hjt)
      refine step (A :: O) j _ c (List.getElem?_eq_getElem hjt) hc x1 _ K3 _ ((Rb.grow s8).wipe vs1) p8 fun σ9 r9 R9 w9 q9 => ⟨by rw [w9 vs1 hjs1, wipe_wipe fun _ h => h], q9 σ9 K3 _ R9 fun b K4 R10 e10 q10 => ?_⟩
      obtain ⟨rfl, q10⟩ := q10
      rw [if_pos rfl]
      refine q10 σ9 K4 _ R10 fun v K5 d R11 e11 p11 q11 => ?_
      subst q11
      have e75 : Sm M.F0 K K5 := ((sm_0 s8).trans e10).trans e11
      obtain ⟨l, l1, l2, l3⟩ := up e75 hT
      have small : l.length ≤ B.length := len_sub l1 fun y hy => inB hzi y ((l2 y).1 hy)
      refine ⟨c, _, l.length, p11, l3, by show l.length + 1 < 4096; omega, ?_⟩
      have Ra5 := Ra.step e75 R11.inv
      have Rb5 := Rb.step e75 R11.inv
      refine ⟨?_, Ra5.over (noMuX Ra5 l3), Rb5.over (noMuX Rb5 l3), fun b u n e => ?_, W.mono _ _ _ sm_over (W.mono _ _ _ (e75.wide nf0) g7), W1.mono _ _ _ sm_over (W1.mono _ _ _ (e75.wide nf0) g8)⟩
      · rw [hcat]
        exact SxAt.put l1 l2
      · have ne : b ≠ A := fun q => by
          rw [q, hA] at e
          cases e
        rw [upd_ne ne]
        exact e75 b u n (e7 b u n e)
    · have ej : j = us.length := by omega
      subst ej
      refine .inl ⟨W1.stop _ _ _ g8 (Nat.le_refl _), ?_, Ra, e7, g7⟩
      rw [hflat]
      rw [hus, List.take_length] at hT
      exact hT
  · have ei : i = xs.length := by omega
    subst ei
    refine .inl ⟨W.stop _ _ _ g2 (Nat.le_refl _), ?_⟩
    obtain ⟨l, l1, l2, l3⟩ := hS
    refine ⟨A, _, _, rfl, l3, Nat.lt_of_le_of_lt (len_sub l1 fun y hy => inB0 y ((l2 y).1 hy)) hB, fun ys p y1 y2 y3 _ hp => ?_⟩
    have e9 : Sm M.F0 H1 (upd H2 p (.lst (ys.map V.str))) := e2.trans (sm_0 (sm_new hp))
    have R9 : Rp M O r σ H2 := R1.step e2 R2.inv
    refine z (.ref p) _ (.lst (ys.map D.str)) (R9.grow (sm_new hp)) (e1.trans e9) (rep_lst R9 hp (strs_repL ys)) (fin ys y1 y2 fun k => ?_)
    rw [y3, decide_eq_true_eq, ← hl, List.take_length, List.mem_flatten]
end
end Dw

/-! DwSeq: a walk over what is a list or a tuple. -/
namespace Dw
open PySem PySem.Spec PyProof.Rows L2
/-- over a list or a tuple, whichever it is -/
def iSeq (K : PySem.W.Frag) (te : TE) : TI := fun σ H R => te σ H fun x K1 => ∃ a, x = .ref a ∧ (((∃ xs, SqL K K1 a xs) ∧ R (Itl K a) K1) ∨ ((∃ xs, SqT K K1 a xs) ∧ R (Itt K a) K1))
theorem pi_seq {X : Cx} {tg e : Expr} {te : TE} (he : PE X e te) : PI X tg e (iSeq X.K te) := by
  refine ⟨fun pins s σ H R I h => thn (he.run pins s σ H _ I h) fun v s1 ⟨x, K1, J, r, a, z, q⟩ => ?_⟩
  subst z
  cases r
  have new : ∀ b ∈ [s1.heap.objs.size], FpOk X pins K1 b := fun b hb => by
    rw [List.mem_singleton.mp hb]
    exact J.fpOk (Nat.le_refl _) (J.hok.fresh (Nat.le_refl _))
  rcases q with ⟨⟨xs, hq⟩, q⟩ | ⟨⟨xs, hq⟩, q⟩
  · obtain ⟨its, rv, p, hz⟩ := J.list hq
    exact wpAny_pyIter_list p.isList ⟨_, _, _, _, K1, rfl, J.kept (t' := s1.toks) fun b o e => Heap.get?_push_of_some _ e, turn_list a _, ⟨_, Heap.get?_push_size _ rfl, rfl, rfl⟩, new, q⟩
  · obtain ⟨its, rv, p, hz⟩ := J.tuple hq
    exact wpAny_pyIter_tuple (show s1.heap.IsTuple a its.toArray from p) ⟨_, _, _, _, K1, rfl, J.kept (t' := s1.toks) fun b o e => Heap.get?_push_of_some _ e, turn_tuple a _, ⟨_, Heap.get?_push_size _ rfl, rfl, rfl⟩, new, q⟩
theorem di_seq {M : Md} {O : List Addr} {r : List Sl} {k : List D → Prop} {te : TE} (h : De M te O r fun x => ∃ xs, (x = .lst xs ∨ x = .tup xs) ∧ k xs) : DI M (iSeq M.K te) O r k := fun σ H Q R z => h σ H _ R fun v H1 x R1 e1 p1 q => by
  obtain ⟨xs, c, q⟩ := q
  rcases c with rfl | rfl
  · obtain ⟨a, vs, rfl, h1, h2⟩ := p1
    exact ⟨a, rfl, .inl ⟨⟨vs, h1.sq⟩, z _ H1 xs (wk_list M.K a xs) R1 e1 ⟨vs, h1, h2⟩ q⟩⟩
  · obtain ⟨a, vs, rfl, h1, h2⟩ := p1
    exact ⟨a, rfl, .inr ⟨⟨vs, h1.sq⟩, z _ H1 xs (wk_tup M.K a xs) R1 e1 ⟨vs, h1, h2⟩ q⟩⟩
end Dw

/-! Wp1: what is read may be an own list too; operators lifted from values to trees. -/
namespace Dw
open PySem PySem.Spec PyProof.Rows L2
/-- a value that is read: data, or an own list -/
def RepV (K : PySem.W.Frag) (N0 N : No) (H : Hp) (d : D) (v : V) : Prop := Rep K N H d v ∨ ∃ xs a vs, d = .lst xs ∧ v = .ref a ∧ LAt K N0 H a vs ∧ RepL K N H xs vs
def RepS (K : PySem.W.Frag) (N : No) (H : Hp) (d : D) (v : V) : Prop := Rep K N H d v ∨ ∃ xs a vs, d = .lst xs ∧ v = .ref a ∧ SqL K H a vs ∧ RepL K N H xs vs
theorem RepV.s {K : PySem.W.Frag} {N0 N : No} {H : Hp} {d : D} {v : V} (h : RepV K N0 N H d v) : RepS K N H d v := by
  rcases h with h | ⟨xs, a, vs, e1, e2, h1, h2⟩
  · exact .inl h
  · exact .inr ⟨xs, a, vs, e1, e2, h1.sq, h2⟩
theorem RepV.step {M : Md} {O : List Addr} {H H' : Hp} {d : D} {v : V} (e : Sm M.F0 H H') (h : RepV M.K M.F0 (nf M O) H d v) : RepV M.K M.F0 (nf M O) H' d v := by
  rcases h with h | ⟨xs, a, vs, e1, e2, h1, h2⟩
  · exact .inl (h.step e)
  · exact .inr ⟨xs, a, vs, e1, e2, h1.mono e, h2.step e⟩
section
variable {K : PySem.W.Frag} {N : No} {H : Hp} {v : V}
theorem RepS.lst {xs : List D} (h : RepS K N H (.lst xs) v) : ∃ a vs, v = .ref a ∧ SqL K H a vs ∧ RepL K N H xs vs := by
  rcases h with ⟨a, vs, e, h1, h2⟩ | ⟨ys, a, vs, e0, e, h1, h2⟩
  · exact ⟨a, vs, e, h1.sq, h2⟩
  · cases e0
    exact ⟨a, vs, e, h1, h2⟩
theorem RepS.rep {d : D} (h : RepS K N H d v) (n : ∀ xs, d ≠ .lst xs) : Rep K N H d v := by
  rcases h with h | ⟨ys, a, vs, e0, _⟩
  · exact h
  · exact (n ys e0).elim
theorem RepS.tup {xs : List D} (h : RepS K N H (.tup xs) v) : ∃ a vs, v = .ref a ∧ SqT K H a vs ∧ RepL K N H xs vs := by
  obtain ⟨a, vs, e, h1, h2⟩ := h.rep fun _ z => nomatch z
  exact ⟨a, vs, e, h1.sq, h2⟩
theorem RepS.int {i : Int} (h : RepS K N H (.int i) v) : v = .int i := h.rep fun _ z => nomatch z
theorem RepS.str {i : Str} (h : RepS K N H (.str i) v) : v = .str i := h.rep fun _ z => nomatch z
theorem RepS.bl {i : Bool} (h : RepS K N H (.bl i) v) : v = .bl i := h.rep fun _ z => nomatch z
theorem RepS.non (h : RepS K N H .non v) : v = .non := h.rep fun _ z => nomatch z
theorem RepS.flat {d : D} {x : V} (e : d.v = some x) (h : RepS K N H d v) : v = x := by
  cases d <;> first
    | cases e
  · exact h.non
  · exact h.bl
  · exact h.int
  · exact h.str
theorem dpS_of {d : D} (p : d.pl = true) (h : RepS K N H d v) : Dp K H v d.py := by
  rcases h with h | ⟨xs, a, vs, rfl, rfl, h1, h2⟩
  · exact dp_of p h
  · exact .lst h1 (dpL_of (show D.plL xs = true from p) h2)
end
/-- rows of what is read -/
def RepSL (K : PySem.W.Frag) (N : No) (H : Hp) : List D → List V → Prop
  | [], vs => vs = []
  | d :: ds, vs => ∃ v r, vs = v :: r ∧ RepS K N H d v ∧ RepSL K N H ds r
def RepVL (K : PySem.W.Frag) (N0 N : No) (H : Hp) : List D → List V → Prop
  | [], vs => vs = []
  | d :: ds, vs => ∃ v r, vs = v :: r ∧ RepV K N0 N H d v ∧ RepVL K N0 N H ds r
theorem RepVL.s {K : PySem.W.Frag} {N0 N : No} {H : Hp} : ∀ {ds : List D} {vs : List V}, RepVL K N0 N H ds vs → RepSL K N H ds vs
  | [], _, h => h
  | d :: ds, _, ⟨v, r, e, h1, h2⟩ => ⟨v, r, e, h1.s, RepVL.s h2⟩
def Dv (M : Md) (te : TE) (O : List Addr) (r : List Sl) (k : D → Prop) : Prop :=
  ∀ σ H (Q : VK), Rp M O r σ H → (∀ v H' d, Rp M O r σ H' → Sm M.F0 H H' → RepV M.K M.F0 (nf M O) H' d v → k d → Q v H') → te σ H Q
def Dav (M : Md) (ta : TA) (O : List Addr) (r : List Sl) (k : List D → Prop) : Prop :=
  ∀ σ H (Q : List V → Hp → Prop), Rp M O r σ H → (∀ vs H' ds, Rp M O r σ H' → Sm M.F0 H H' → RepVL M.K M.F0 (nf M O) H' ds vs → k ds → Q vs H') → ta σ H Q
/-- what a rule by values asks, over trees: the answer is old data or stands in a larger heap -/
def Post (K : PySem.W.Frag) (N : No) (H : Hp) (k : D → Prop) (Q : VK) : Prop := ∀ w H' d, Sm (fun _ => False) H H' → Rep K N H' d w → k d → Q w H'
def Lift2 (K : PySem.W.Frag) (f : R2) (W : D → D → (D → Prop) → Prop) : Prop := ∀ (N : No) (H : Hp) (x y : D) (v u : V) (k : D → Prop) (Q : VK), (∀ a, N a → H a ≠ none) → RepS K N H x v → RepS K N H y u → W x y k → Post K N H k Q → f v u H Q
def Lift1 (K : PySem.W.Frag) (f : V → Hp → VK → Prop) (W : D → (D → Prop) → Prop) : Prop := ∀ (N : No) (H : Hp) (x : D) (v : V) (k : D → Prop) (Q : VK), (∀ a, N a → H a ≠ none) → RepS K N H x v → W x k → Post K N H k Q → f v H Q
def LiftL (K : PySem.W.Frag) (f : List V → Hp → VK → Prop) (W : List D → (D → Prop) → Prop) : Prop := ∀ (N : No) (H : Hp) (ds : List D) (vs : List V) (k : D → Prop) (Q : VK), (∀ a, N a → H a ≠ none) → RepSL K N H ds vs → W ds k → Post K N H k Q → f vs H Q
def LiftM (K : PySem.W.Frag) (f : V → List V → Hp → VK → Prop) (W : D → List D → (D → Prop) → Prop) : Prop := ∀ (N : No) (H : Hp) (x : D) (v : V) (ds : List D) (vs : List V) (k : D → Prop) (Q : VK), (∀ a, N a → H a ≠ none) → RepS K N H x v → RepSL K N H ds vs → W x ds k → Post K N H k Q → f v vs H Q
section
variable {K : PySem.W.Frag} {N : No} {H : Hp} {k : D → Prop} {Q : VK}
theorem Post.here (z : Post K N H k Q) {w : V} {d : D} (h : Rep K N H d w) (q : k d) : Q w H := z w H d .refl h q
theorem Post.newL (z : Post K N H k Q) (hN : ∀ a, N a → H a ≠ none) {xs : List D} {vs : List V} {p : Addr} (hp : H p = none) (h : RepL K N H xs vs) (q : k (.lst xs)) : Q (.ref p) (upd H p (.lst vs)) :=
  z _ _ (.lst xs) (sm_new hp) ⟨p, vs, rfl, .inl ⟨fun n => hN p n hp, .inl upd_same⟩, h.mono (sm_0 (sm_new hp))⟩ q
theorem Post.newT (z : Post K N H k Q) (hN : ∀ a, N a → H a ≠ none) {xs : List D} {vs : List V} {p : Addr} (hp : H p = none) (h : RepL K N H xs vs) (q : k (.tup xs)) : Q (.ref p) (upd H p (.tup vs)) :=
  z _ _ (.tup xs) (sm_new hp) ⟨p, vs, rfl, .inl ⟨fun n => hN p n hp, .inl upd_same⟩, h.mono (sm_0 (sm_new hp))⟩ q
end
section
variable {M : Md} {O : List Addr} {r : List Sl} {k : D → Prop} {kl : List D → Prop} {te ta tb : TE} {tl : TA}
theorem De.v (h : De M te O r k) : Dv M te O r k := fun σ H Q R z => h σ H Q R fun v H1 d R1 e1 p1 q => z v H1 d R1 e1 (.inl p1) q
theorem Dv.imp {k' : D → Prop} (h : Dv M te O r k) (i : ∀ d, k d → k' d) : Dv M te O r k' := fun σ H Q R z => h σ H Q R fun v H1 d R1 e1 p1 q1 => z v H1 d R1 e1 p1 (i d q1)
theorem Dav.imp {k' : List D → Prop} (h : Dav M tl O r kl) (i : ∀ d, kl d → k' d) : Dav M tl O r k' := fun σ H Q R z => h σ H Q R fun v H1 d R1 e1 p1 q1 => z v H1 d R1 e1 p1 (i d q1)
theorem dv_mu {i : Nat} {p : Addr} {xs : List D} (h : r[i]? = some (.mu p xs)) (q : k (.lst xs)) : Dv M (tVar i) O r k := fun σ H Q R z => by
  obtain ⟨e, hp, vs, h1, h2⟩ := R.slot i _ h
  exact ⟨.ref p, e, z (.ref p) H (.lst xs) R .refl (.inr ⟨xs, p, vs, rfl, rfl, .inl ⟨fun f => M.tr p (M.f0 p f) (R.own p hp).1, .inl h1⟩, h2⟩) q⟩
theorem RepVL.step {H H' : Hp} (e : Sm M.F0 H H') : ∀ {ds : List D} {vs : List V}, RepVL M.K M.F0 (nf M O) H ds vs → RepVL M.K M.F0 (nf M O) H' ds vs
  | [], _, h => h
  | d :: ds, _, ⟨v, r, e1, h1, h2⟩ => ⟨v, r, e1, h1.step e, RepVL.step e h2⟩
theorem dav_nil (q : kl []) : Dav M tNil O r kl := fun σ H Q R z => z [] H [] R .refl rfl q
theorem dav_cons (h : Dv M te O r fun x => Dav M tl O r fun xs => kl (x :: xs)) : Dav M (tCons te tl) O r kl := fun σ H Q R z => by
  refine h σ H _ R fun v H1 x R1 e1 p1 h1 => ?_
  exact h1 σ H1 _ R1 fun vs H2 xs R2 e2 p2 q2 => z (v :: vs) H2 (x :: xs) R2 (e1.trans e2) ⟨v, vs, rfl, p1.step e2, p2⟩ q2
theorem post_of {σ : L2.St} {H0 H : Hp} {Q : VK} (R : Rp M O r σ H) (e : Sm M.F0 H0 H) (z : ∀ v H' d, Rp M O r σ H' → Sm M.F0 H0 H' → Rep M.K (nf M O) H' d v → k d → Q v H') : Post M.K (nf M O) H k Q :=
  fun w H' d s p q => z w H' d (R.grow s) (e.trans (sm_0 s)) p q
theorem e_op2 {f : R2} {W : D → D → (D → Prop) → Prop} (L : Lift2 M.K f W) (h : Dv M ta O r fun x => Dv M tb O r fun y => W x y k) : De M (tOp f ta tb) O r k := fun σ H Q R z => by
  refine h σ H _ R fun v H1 x R1 e1 p1 h1 => h1 σ H1 _ R1 fun u H2 y R2 e2 p2 q => ?_
  exact L _ H2 x y v u k Q (nf_tr R2) (p1.step e2).s p2.s q (post_of R2 (e1.trans e2) z)
theorem e_un {f : V → Hp → VK → Prop} {W : D → (D → Prop) → Prop} (L : Lift1 M.K f W) (h : Dv M ta O r fun x => W x k) : De M (tUn f ta) O r k := fun σ H Q R z => by
  refine h σ H _ R fun v H1 x R1 e1 p1 q => ?_
  exact L _ H1 x v k Q (nf_tr R1) p1.s q (post_of R1 e1 z)
theorem e_cb {f : List V → Hp → VK → Prop} {W : List D → (D → Prop) → Prop} (L : LiftL M.K f W) (h : Dav M tl O r fun x => W x k) : De M (tCB f tl) O r k := fun σ H Q R z => by
  refine h σ H _ R fun v H1 x R1 e1 p1 q => ?_
  exact L _ H1 x v k Q (nf_tr R1) p1.s q (post_of R1 e1 z)
def D.tyIs : D → String → Prop
  | .str _, T => T = "str"
  | .lst _, T => T = "list"
  | .tup _, T => T = "tuple"
  | _, _ => False
theorem e_m1 {f : V → List V → Hp → VK → Prop} {W : D → List D → (D → Prop) → Prop} (L : LiftM M.K f W) (h : Dv M ta O r fun x => (∃ s, x = .str s) ∧ Dv M tb O r fun y => W x [y] k) : De M (tM1 f ta tb) O r k := fun σ H Q R z => by
  refine h σ H _ R fun v H1 x R1 e1 p1 ⟨⟨s, hs⟩, h1⟩ => ⟨⟨s, ?_⟩, h1 σ H1 _ R1 fun u H2 y R2 e2 p2 q => ?_⟩
  · subst hs
    exact p1.s.str
  · exact L _ H2 x v [y] [u] k Q (nf_tr R2) (p1.step e2).s ⟨u, [], rfl, p2.s, rfl⟩ q (post_of R2 (e1.trans e2) z)
theorem e_sl {f : V → Option Int → Option Int → Hp → VK → Prop} {W : D → Option Int → Option Int → (D → Prop) → Prop}
    (L : ∀ (N : No) (H : Hp) (x : D) (v : V) (i j : Option Int) (k : D → Prop) (Q : VK), (∀ a, N a → H a ≠ none) → RepS M.K N H x v → W x i j k → Post M.K N H k Q → f v i j H Q) {lo hi : TO}
    (h : Dv M te O r fun x => DO M lo O r fun i => DO M hi O r fun j => W x i j k) : De M (tSl f te lo hi) O r k := fun σ H Q R z => by
  refine h σ H _ R fun v H1 x R1 e1 p1 h1 => h1 σ H1 _ R1 fun i H2 R2 e2 h2 => h2 σ H2 _ R2 fun j H3 R3 e3 q => ?_
  exact L _ H3 x v i j k Q (nf_tr R3) ((p1.step e2).step e3).s q (post_of R3 ((e1.trans e2).trans e3) z)
end
end Dw

/-! Wp2: operators over trees: what they ask (W), the rules that serve them (op_..W), the lifts (l_..). -/
namespace Dw
open PySem PySem.Spec PyProof.Rows L2
/-- one of two ways -/
def W.ite (b : Bool) (p q : Prop) : Prop := (b = true → p) ∧ (b = false → q)
theorem W.ite_t {p q : Prop} : W.ite true p q ↔ p := ⟨fun h => h.1 rfl, fun h => ⟨fun _ => h, fun z => nomatch z⟩⟩
theorem W.ite_f {p q : Prop} : W.ite false p q ↔ q := ⟨fun h => h.2 rfl, fun h => ⟨(fun z => nomatch z), fun _ => h⟩⟩
/-- ways that join -/
def W.join {α : Type} (m : (α → Prop) → Prop) (k : α → Prop) : Prop := m k
theorem op_or2 {X : Cx} {f : Value → Value → Sem Value} {r r' : R2} (h : OpR X f r) (h' : OpR X f r') : OpR X f (fun x y H Q => r x y H Q ∨ r' x y H Q) := by
  intro pins s σ H x y v u Q I rx ry q
  rcases q with q | q
  · exact h pins s σ H x y v u Q I rx ry q
  · exact h' pins s σ H x y v u Q I rx ry q
theorem l_or2 {K : PySem.W.Frag} {r r' : R2} {W W1 W2 : D → D → (D → Prop) → Prop} (h : Lift2 K r W1) (h' : Lift2 K r' W2) (e : ∀ x y k, W x y k → W1 x y k ∨ W2 x y k) : Lift2 K (fun x y H Q => r x y H Q ∨ r' x y H Q) W :=
  fun N H x y v u k Q hN px py w z => (e x y k w).imp (fun q => h N H x y v u k Q hN px py q z) fun q => h' N H x y v u k Q hN px py q z
theorem Lift2.imp {K : PySem.W.Frag} {r : R2} {W W1 : D → D → (D → Prop) → Prop} (h : Lift2 K r W1) (e : ∀ x y k, W x y k → W1 x y k) : Lift2 K r W := fun N H x y v u k Q hN px py w z => h N H x y v u k Q hN px py (e x y k w) z
/-! ### whole numbers -/
def W.ii (C : Int → Int → Prop) (g : Int → Int → D) (x y : D) (k : D → Prop) : Prop := ∃ i j, x = .int i ∧ y = .int j ∧ C i j ∧ k (g i j)
theorem l_ii {K : PySem.W.Frag} {C : Int → Int → Prop} {g : Int → Int → V} {G : Int → Int → D} (hg : ∀ i j N H, Rep K N H (G i j) (g i j)) : Lift2 K (rI C g) (W.ii C G) := fun N H x y v u k Q hN px py w z => by
  obtain ⟨i, j, rfl, rfl, c, q⟩ := w
  exact ⟨i, j, px.int, py.int, c, z.here (hg i j N H) q⟩
theorem l_ii0 {K : PySem.W.Frag} {g : Int → Int → V} {G : Int → Int → D} (hg : ∀ i j N H, Rep K N H (G i j) (g i j)) : Lift2 K (rI0 g) (W.ii (fun _ _ => True) G) := fun N H x y v u k Q hN px py w z => by
  obtain ⟨i, j, rfl, rfl, c, q⟩ := w
  exact ⟨i, j, px.int, py.int, z.here (hg i j N H) q⟩
section
variable {X : Cx} {K : PySem.W.Frag}
/-! ### + -/
def W.add : D → D → (D → Prop) → Prop
  | .int i, .int j, k => k (.int (i + j))
  | .str a, .str b, k => a.length + b.length ≤ sizeLine ∧ k (.str (a ++ b))
  | .lst a, .lst b, k => a.length + b.length ≤ sizeLine ∧ k (.lst (a ++ b))
  | .tup a, .tup b, k => a.length + b.length ≤ sizeLine ∧ k (.tup (a ++ b))
  | _, _, _ => False
def rAddW (K : PySem.W.Frag) : R2 := fun x y H Q => rI0 (fun i j => .int (i + j)) x y H Q ∨ rAddS x y H Q ∨ Dw.rCatA K x y H Q ∨ L2.rCatA K x y H Q
theorem op_addW : OpR X (binaryOp .Add) (rAddW X.K) := op_or2 op_add (op_or2 op_add_str (op_or2 Dw.op_catA L2.op_catA))
theorem l_add : Lift2 K (rAddW K) W.add := fun N H x y v u k Q hN px py w z => by
  cases x <;> cases y <;> first
    | exact (show False from w).elim
    | skip
  case int.int i j => exact .inl ⟨i, j, px.int, py.int, z.here (d := .int (i + j)) rfl w⟩
  case str.str a b => exact .inr (.inl ⟨a, b, px.str, py.str, w.1, z.here (d := .str (a ++ b)) rfl w.2⟩)
  case lst.lst xs ys =>
    obtain ⟨a, vs, rfl, h1, h2⟩ := px.lst
    obtain ⟨b, ws, rfl, h3, h4⟩ := py.lst
    exact .inr (.inr (.inl ⟨a, b, vs, ws, rfl, rfl, h1, h3, by rw [← h2.length, ← h4.length]; exact w.1, fun p hp => z.newL hN hp (h2.append h4) w.2⟩))
  case tup.tup xs ys =>
    have pa := px.rep fun _ e => nomatch e
    have pb := py.rep fun _ e => nomatch e
    obtain ⟨a, vs, rfl, h1, h2⟩ := px.tup
    obtain ⟨b, ws, rfl, h3, h4⟩ := py.tup
    refine .inr (.inr (.inr ⟨a, b, vs, ws, rfl, rfl, h1, h3, by rw [← h2.length, ← h4.length]; exact w.1, fun e => ?_, fun _ e => ?_, fun _ _ p hp => z.newT hN hp (h2.append h4) w.2⟩))
    · subst e
      have e2 : xs = [] := List.length_eq_zero_iff.mp (by rw [h2.length]; rfl)
      subst e2
      exact z.here pb w.2
    · subst e
      have e2 : ys = [] := List.length_eq_zero_iff.mp (by rw [h4.length]; rfl)
      subst e2
      refine z.here pa ?_
      have := w.2
      rw [List.append_nil] at this
      exact this
/-! ### - * // % << >> & | ^ ~ -/
def W.sub (x y : D) (k : D → Prop) : Prop := W.ii (fun _ _ => True) (fun i j => .int (i - j)) x y k
theorem l_sub : Lift2 K (rI0 fun i j => .int (i - j)) W.sub := l_ii0 fun _ _ _ _ => rfl
def W.mod (x y : D) (k : D → Prop) : Prop := W.ii (fun _ j => 0 < j) (fun i j => .int (i % j)) x y k
theorem l_mod : Lift2 K (rI (fun _ j => 0 < j) fun i j => .int (i % j)) W.mod := l_ii fun _ _ _ _ => rfl
def W.fdiv (x y : D) (k : D → Prop) : Prop := W.ii CDiv (fun i j => .int (i / j)) x y k
theorem l_fdiv : Lift2 K (rI CDiv fun i j => .int (i / j)) W.fdiv := l_ii fun _ _ _ _ => rfl
def W.shl (x y : D) (k : D → Prop) : Prop := W.ii CPow (fun i j => .int (i * 2 ^ j.toNat)) x y k
theorem l_shl : Lift2 K (rI CPow fun i j => .int (i * 2 ^ j.toNat)) W.shl := l_ii fun _ _ _ _ => rfl
def W.shr (x y : D) (k : D → Prop) : Prop := W.ii (fun _ j => 0 ≤ j) (fun i j => .int (i / 2 ^ j.toNat)) x y k
theorem l_shr : Lift2 K (rI (fun _ j => 0 ≤ j) fun i j => .int (i / 2 ^ j.toNat)) W.shr := l_ii fun _ _ _ _ => rfl
def W.band (x y : D) (k : D → Prop) : Prop := W.ii (fun _ _ => True) (fun i j => .int (Builtin.bitAnd i j)) x y k
theorem l_band : Lift2 K (rI0 fun i j => .int (Builtin.bitAnd i j)) W.band := l_ii0 fun _ _ _ _ => rfl
def W.bor (x y : D) (k : D → Prop) : Prop := W.ii (fun _ _ => True) (fun i j => .int (Builtin.bitOr i j)) x y k
theorem l_bor : Lift2 K (rI0 fun i j => .int (Builtin.bitOr i j)) W.bor := l_ii0 fun _ _ _ _ => rfl
def W.bxor (x y : D) (k : D → Prop) : Prop := W.ii (fun _ _ => True) (fun i j => .int (Builtin.bitXor i j)) x y k
theorem l_bxor : Lift2 K (rI0 fun i j => .int (Builtin.bitXor i j)) W.bxor := l_ii0 fun _ _ _ _ => rfl
def W.i1 (g : Int → D) (x : D) (k : D → Prop) : Prop := ∃ i, x = .int i ∧ k (g i)
theorem l_i1 {g : Int → V} {G : Int → D} (hg : ∀ i N H, Rep K N H (G i) (g i)) : Lift1 K (rU g) (W.i1 G) := fun N H x v k Q hN px w z => by
  obtain ⟨i, rfl, q⟩ := w
  exact ⟨i, px.int, z.here (hg i N H) q⟩
def W.neg (x : D) (k : D → Prop) : Prop := W.i1 (fun i => .int (-i)) x k
theorem l_neg : Lift1 K (rU fun i => .int (-i)) W.neg := l_i1 fun _ _ _ => rfl
def W.inv (x : D) (k : D → Prop) : Prop := W.i1 (fun i => .int (Builtin.bitNot i)) x k
theorem l_inv : Lift1 K (rU fun i => .int (Builtin.bitNot i)) W.inv := l_i1 fun _ _ _ => rfl
/-- a list of any kind taken n times -/
theorem int_rmul_listW (a : Int) (t : Tok) (l : Addr) (items : Array Value) (n : Nat) (dd : Option Addr) (sl : Array (Option Value)) :
    Meets (Builtin.«int.__rmul__» ⟨[.int a t, .ref l], []⟩) (fun _ R s => s.heap.get? l = some { cls := .type "list", dict := dd, data := .seq items n, slots := sl } ∧ R (.ok (.ret Value.notImplemented)) s) :=
  .of_wp fun prog w A R s h => by obtain ⟨hp, g, d, tk, os⟩ := s; obtain ⟨hl, h⟩ := h; wp_walk; exact ⟨_, rfl, h⟩
theorem list_mulW (l : Addr) (items : Array Value) (n : Nat) (x : Int) (u : Tok) (dd : Option Addr) (sl : Array (Option Value)) (hc0 : ¬(!Builtin.List.listFitsIndex x) = true) (hc1 : ¬items.size * x.toNat > (2 ^ 63 - 1) / 8) (hc2 : ¬Builtin.List.listTooLong (items.size * x.toNat) = true) :
    Meets (Builtin.«list.__mul__» ⟨[.ref l, .int x u], []⟩) (fun _ R s => s.heap.get? l = some { cls := .type "list", dict := dd, data := .seq items n, slots := sl } ∧ R (.ok (.ret (Value.ref s.heap.objs.size))) { s with heap := s.heap.push { cls := Value.type "list", data := Data.seq (List.foldl (fun x1 x2 => x1 ++ x2) #[] (List.replicate (if items.isEmpty = true then 0 else x.toNat) items)) }, toks := s.toks }) :=
  .of_wp fun prog w A R s h => by
    obtain ⟨hp, g, d, tk, os⟩ := s; obtain ⟨hl, h⟩ := h
    have hsz := PySem.AutoListH.joined_fits hc2
    wp_walk; refine wpAny_ite_false (decide_eq_false (Nat.not_lt.mpr hsz)) ?_; wp_walk; exact ⟨_, rfl, h⟩
def rRepA (K : PySem.W.Frag) : R2 := fun x y H Q => ∃ l k xs, x = .ref l ∧ y = .int k ∧ SqL K H l xs ∧ -(2 ^ 63) ≤ k ∧ k < 2 ^ 63 ∧ xs.length * k.toNat ≤ sizeLine ∧ ∀ p, H p = none → Q (.ref p) (upd H p (.lst (List.replicate k.toNat xs).flatten))
theorem op_repA : OpR X (binaryOp .Mult) (rRepA X.K) := by
  intro pins s σ H x y v u Q I rx ry h
  obtain ⟨l, k, xs, rfl, rfl, hH, h1, h2, hz, q⟩ := h
  cases rx
  obtain ⟨t, rfl⟩ := ry
  obtain ⟨its, r, pl, hzz⟩ := I.list hH
  obtain ⟨⟨cls, dd, data, sls⟩, n, e, hc, hdn, hdt⟩ := pl
  simp only at hc hdt
  subst hc hdt
  have hl := r.length
  have hlen : its.toArray.size * k.toNat ≤ sizeLine := by rw [List.size_toArray, ← hl]; exact hz
  have hcap : ¬ its.toArray.size * k.toNat > (2 ^ 63 - 1) / 8 := by
    have : (sizeLine : Nat) ≤ (2 ^ 63 - 1) / 8 := by decide
    omega
  have hfit : ¬ (!Builtin.List.listFitsIndex k) = true := by
    rw [fitsIndex_both h1 h2]
    exact Bool.false_ne_true
  have hlong : ¬ Builtin.List.listTooLong (its.toArray.size * k.toNat) = true := by
    rw [notLongL hlen]
    exact Bool.false_ne_true
  have hnew : List.foldl (fun x1 x2 => x1 ++ x2) #[] (List.replicate (if its.toArray.isEmpty = true then 0 else k.toNat) its.toArray) = (List.replicate k.toNat its).flatten.toArray := by
    have f0 : ∀ m : Nat, List.foldl (fun x1 x2 => x1 ++ x2) #[] (List.replicate m its.toArray) = (List.replicate m its).flatten.toArray := fun m => by
      have := foldl_rep its m []
      rw [List.nil_append] at this
      exact this
    rw [f0]
    cases its with
    | nil => simp
    | cons a r' => rw [if_neg (by simp)]
  refine wpAny_binaryOp_repeat_ref (T := "list") (U := "int") (by decide) ⟨_, e, rfl⟩ (fun s' => typeIs_int s' k t) noFill_list_mul F.fills_int_mul F.slot_int_rmul repeat_list F.slot_int_index.lookup
    (call_meets F.slot_int_rmul (typeIs_int s k t) F.entry_int_rmul (F.args_int_rmul_2 _ _) (int_rmul_listW k t l its.toArray n dd sls)
      ⟨e, rfl, ⟨_, e, rfl⟩, call_meets F.slot_list_mul ⟨_, e, rfl⟩ F.entry_list_mul (F.args_list_mul_2 _ _) (list_mulW l its.toArray n k t dd sls hfit hcap hlong) ⟨e, ?_⟩⟩)
  rw [hnew]
  exact ⟨.ref _, _, I.lnew (t' := s.toks) (r.rep k.toNat) (by rw [PyProof.Rows.lm_len_rep_flat, Nat.mul_comm]; exact hz), rfl, q _ I.fresh⟩
def W.mul : D → D → (D → Prop) → Prop
  | .int i, .int j, k => CMul i j ∧ k (.int (i * j))
  | .str a, .int j, k => ∃ b : Bool, j = (if b then 1 else 0) ∧ k (.str (if b then a else Str.empty))
  | .lst a, .int j, k => (-(2 ^ 62) ≤ j ∧ j ≤ 2 ^ 62) ∧ a.length * j.toNat ≤ sizeLine ∧ k (.lst (List.replicate j.toNat a).flatten)
  | _, _, _ => False
def rMulW (K : PySem.W.Frag) : R2 := fun x y H Q => rI CMul (fun i j => .int (i * j)) x y H Q ∨ rMulS x y H Q ∨ rRepA K x y H Q
theorem op_mulW2 : OpR X (binaryOp .Mult) (rMulW X.K) := op_or2 op_mul (op_or2 op_mulS op_repA)
theorem repL_flat {N : No} {H : Hp} {xs : List D} {vs : List V} (h : RepL K N H xs vs) : ∀ m : Nat, RepL K N H (List.replicate m xs).flatten (List.replicate m vs).flatten
  | 0 => .nil
  | m + 1 => by
    rw [List.replicate_succ, List.replicate_succ, List.flatten_cons, List.flatten_cons]
    exact h.append (repL_flat h m)
theorem l_mul : Lift2 K (rMulW K) W.mul := fun N H x y v u k Q hN px py w z => by
  cases x <;> cases y <;> first
    | exact (show False from w).elim
    | skip
  case int.int i j => exact .inl ⟨i, j, px.int, py.int, w.1, z.here (d := .int (i * j)) rfl w.2⟩
  case str.int a j =>
    obtain ⟨b, rfl, q⟩ := w
    exact .inr (.inl ⟨a, b, px.str, py.int, z.here (d := .str (if b then a else Str.empty)) rfl q⟩)
  case lst.int xs j =>
    obtain ⟨⟨j0, j1⟩, hz, q⟩ := w
    obtain ⟨a, vs, rfl, h1, h2⟩ := px.lst
    exact .inr (.inr ⟨a, j, vs, rfl, py.int, h1, by omega, by omega, by rw [← h2.length]; exact hz, fun p hp => z.newL hN hp (repL_flat h2 _) q⟩)
/-! ### comparisons -/
def W.lt : D → D → (D → Prop) → Prop
  | .int i, .int j, k => k (.bl (decide (i < j)))
  | .str i, .str j, k => k (.bl (decide (i.cps.toList < j.cps.toList)))
  | _, _, _ => False
def rLtW : R2 := fun x y H Q => rI0 (fun i j => .bl (decide (i < j))) x y H Q ∨ ∃ i j, x = .str i ∧ y = .str j ∧ Q (.bl (decide (i.cps.toList < j.cps.toList))) H
theorem op_ltW : OpR X (compareOp .Lt) rLtW := op_or2 op_lt op_lt_str
theorem l_lt : Lift2 K rLtW W.lt := fun N H x y v u k Q hN px py w z => by
  cases x <;> cases y <;> first
    | exact (show False from w).elim
    | skip
  case int.int i j => exact .inl ⟨i, j, px.int, py.int, z.here (d := .bl _) rfl w⟩
  case str.str i j => exact .inr ⟨i, j, px.str, py.str, z.here (d := .bl _) rfl w⟩
def W.le (x y : D) (k : D → Prop) : Prop := W.ii (fun _ _ => True) (fun i j => .bl (decide (i ≤ j))) x y k
theorem l_le : Lift2 K (rI0 fun i j => .bl (decide (i ≤ j))) W.le := l_ii0 fun _ _ _ _ => rfl
def W.gt (x y : D) (k : D → Prop) : Prop := W.ii (fun _ _ => True) (fun i j => .bl (decide (j < i))) x y k
theorem l_gt : Lift2 K (rI0 fun i j => .bl (decide (j < i))) W.gt := l_ii0 fun _ _ _ _ => rfl
def W.ge (x y : D) (k : D → Prop) : Prop := W.ii (fun _ _ => True) (fun i j => .bl (decide (j ≤ i))) x y k
theorem l_ge : Lift2 K (rI0 fun i j => .bl (decide (j ≤ i))) W.ge := l_ii0 fun _ _ _ _ => rfl
/-- data that == reads through -/
def D.deep (x : D) : Prop := x.pl = true ∧ x.py.depth ≤ 64
def W.eq (x y : D) (k : D → Prop) : Prop := (∃ a b, x.v = some a ∧ y.v = some b ∧ scal a b = true ∧ k (.bl (decide (a = b)))) ∨ (x.deep ∧ y.deep ∧ k (.bl (PyData.eqv x.py y.py)))
def W.ne (x y : D) (k : D → Prop) : Prop := (∃ a b, x.v = some a ∧ y.v = some b ∧ scal a b = true ∧ k (.bl (!decide (a = b)))) ∨ (x.deep ∧ y.deep ∧ k (.bl (!PyData.eqv x.py y.py)))
def rEqW (K : PySem.W.Frag) : R2 := fun x y H Q => rEq x y H Q ∨ rEqD K x y H Q
def rNeW (K : PySem.W.Frag) : R2 := fun x y H Q => rNe x y H Q ∨ rNeD K x y H Q
theorem op_eqW (hu : X.A.units + 64 < cLine) : OpR X (compareOp .Eq) (rEqW X.K) := op_or2 op_eq (op_eqD hu)
theorem op_neW (hu : X.A.units + 64 < cLine) : OpR X (compareOp .NotEq) (rNeW X.K) := op_or2 op_ne (op_neD hu)
theorem D.deep.shaped {x : D} (h : x.deep) : SeqAt.shaped x.py = true := by
  unfold SeqAt.shaped
  rw [(py_show x h.1).2, decide_eq_true h.2]
  rfl
theorem l_eq : Lift2 K (rEqW K) W.eq := fun N H x y v u k Q hN px py w z => by
  rcases w with ⟨a, b, ha, hb, hs, q⟩ | ⟨hx, hy, q⟩
  · left
    rw [px.flat ha, py.flat hb]
    exact ⟨hs, z.here (d := .bl _) rfl q⟩
  · exact .inr ⟨x.py, y.py, dpS_of hx.1 px, dpS_of hy.1 py, hx.shaped, hy.shaped, z.here (d := .bl _) rfl q⟩
theorem l_ne : Lift2 K (rNeW K) W.ne := fun N H x y v u k Q hN px py w z => by
  rcases w with ⟨a, b, ha, hb, hs, q⟩ | ⟨hx, hy, q⟩
  · left
    rw [px.flat ha, py.flat hb]
    exact ⟨hs, z.here (d := .bl _) rfl q⟩
  · exact .inr ⟨x.py, y.py, dpS_of hx.1 px, dpS_of hy.1 py, hx.shaped, hy.shaped, z.here (d := .bl _) rfl q⟩
/-- is None -/
def W.isN (x : D) (k : D → Prop) : Prop := (x = .non ∧ k (.bl true)) ∨ (x ≠ .non ∧ k (.bl false))
/-! ### in -/
def D.flatB (x : D) : Bool := x.v.isSome
/-- flat values alike -/
def D.alike (y x : D) : Bool := match y.v, x.v with
  | some a, some b => eqV a b
  | _, _ => false
def W.isIn (neg : Bool) (x y : D) (k : D → Prop) : Prop :=
  (∃ ys, (y = .lst ys ∨ y = .tup ys) ∧ x.flatB = true ∧ ys.all D.flatB = true ∧ k (.bl (neg != ys.any fun z => z.alike x))) ∨
  (∃ ys, y = .lst ys ∧ x.deep ∧ y.deep ∧ k (.bl (neg != ys.any fun z => PyData.eqv z.py x.py))) ∨
  (∃ (c : Nat) (s : Str), x = .str ⟨#[c]⟩ ∧ y = .str s ∧ k (.bl (neg != decide (c ∈ s.cps.toList))))
def rInW (K : PySem.W.Frag) : R2 := fun x y H Q => rIn K false x y H Q ∨ rInD K x y H Q ∨ ∃ (c : Nat) (z : Str), x = .str ⟨#[c]⟩ ∧ y = .str z ∧ Q (.bl (decide (c ∈ z.cps.toList))) H
def rNinW (K : PySem.W.Frag) : R2 := fun x y H Q => rIn K true x y H Q ∨ rNotInD K x y H Q ∨ ∃ (c : Nat) (z : Str), x = .str ⟨#[c]⟩ ∧ y = .str z ∧ Q (.bl (!decide (c ∈ z.cps.toList))) H
theorem op_inW (hu : X.A.units + 65 < cLine) : OpR X (compareOp .In) (rInW X.K) := op_or2 op_in_seq (op_or2 (op_inD hu) op_in_sign)
theorem op_ninW (hu : X.A.units + 65 < cLine) : OpR X (compareOp .NotIn) (rNinW X.K) := op_or2 op_notIn_seq (op_or2 (op_notInD hu) op_notIn_sign)
theorem flat_repL {N : No} {H : Hp} : ∀ {ds : List D} {vs : List V}, ds.all D.flatB = true → RepL K N H ds vs → vs.all flatV = true ∧ ∀ (x : D) (v : V), x.v = some v → inV v vs = ds.any fun z => z.alike x
  | [], _, _, h => by
    obtain rfl := (show _ = [] from h)
    exact ⟨rfl, fun _ _ _ => rfl⟩
  | d :: ds, _, f, ⟨v, r, rfl, h1, h2⟩ => by
    rw [List.all_cons, Bool.and_eq_true] at f
    obtain ⟨a1, a2⟩ := flat_repL f.2 h2
    obtain ⟨w, hw⟩ := Option.isSome_iff_exists.mp f.1
    obtain rfl := D.v_rep hw h1
    have fw : flatV v = true := by
      cases d <;> first
        | (cases hw; rfl)
        | cases hw
    refine ⟨by rw [List.all_cons, fw, a1]; rfl, fun x u hx => ?_⟩
    have e := a2 x u hx
    unfold inV at e ⊢
    rw [List.any_cons, List.any_cons, e]
    unfold D.alike
    rw [hw, hx]
theorem py_any {ys : List D} {x : PyData} : (D.pyL ys).any (fun z => PyData.eqv z x) = ys.any fun z => PyData.eqv z.py x := by
  induction ys with
  | nil => rfl
  | cons y ys ih =>
    show (PyData.eqv y.py x || (D.pyL ys).any _) = _
    rw [ih]
    rfl
theorem flat_fl {x : D} {v : V} (h : x.v = some v) : flatV v = true := by
  cases x <;> first
    | (cases h; rfl)
    | cases h
theorem l_inB (neg : Bool) : Lift2 K (fun x y H Q => rIn K neg x y H Q ∨ (if neg then rNotInD K x y H Q else rInD K x y H Q) ∨ ∃ (c : Nat) (z : Str), x = .str ⟨#[c]⟩ ∧ y = .str z ∧ Q (.bl (neg != decide (c ∈ z.cps.toList))) H) (W.isIn neg) := fun N H x y v u k Q hN px py w z => by
  rcases w with ⟨ys, hy, fx, fy, q⟩ | ⟨ys, rfl, hx, hy, q⟩ | ⟨c, s, rfl, rfl, q⟩
  · left
    obtain ⟨w, hw⟩ := Option.isSome_iff_exists.mp fx
    obtain rfl := px.flat hw
    have seq : ∃ p vs, u = .ref p ∧ (SqL K H p vs ∨ SqT K H p vs) ∧ RepL K N H ys vs := by
      rcases hy with rfl | rfl
      · obtain ⟨a, vs, e, h1, h2⟩ := py.lst
        exact ⟨a, vs, e, .inl h1, h2⟩
      · obtain ⟨a, vs, e, h1, h2⟩ := py.tup
        exact ⟨a, vs, e, .inr h1, h2⟩
    obtain ⟨p, vs, e, h1, h2⟩ := seq
    obtain ⟨a1, a2⟩ := flat_repL fy h2
    refine ⟨p, vs, e, h1, flat_fl hw, a1, ?_⟩
    rw [a2 x v hw]
    have e3 : (if neg = true then !ys.any fun z => z.alike x else ys.any fun z => z.alike x) = (neg != ys.any fun z => z.alike x) := by cases neg <;> cases ys.any (fun z => z.alike x) <;> rfl
    rw [e3]
    exact z.here (d := .bl _) rfl q
  · right
    left
    have e : Dp K H u (.list (D.pyL ys)) := dpS_of hy.1 py
    cases neg with
    | true =>
      refine ⟨x.py, D.pyL ys, dpS_of hx.1 px, e, hx.shaped, hy.shaped, ?_⟩
      rw [py_any]
      have e2 : (true != ys.any fun z => PyData.eqv z.py x.py) = !ys.any fun z => PyData.eqv z.py x.py := by cases ys.any (fun z => PyData.eqv z.py x.py) <;> rfl
      rw [e2] at q
      exact z.here (d := .bl _) rfl q
    | false =>
      refine ⟨x.py, D.pyL ys, dpS_of hx.1 px, e, hx.shaped, hy.shaped, ?_⟩
      rw [py_any]
      have e2 : (false != ys.any fun z => PyData.eqv z.py x.py) = ys.any fun z => PyData.eqv z.py x.py := by cases ys.any (fun z => PyData.eqv z.py x.py) <;> rfl
      rw [e2] at q
      exact z.here (d := .bl _) rfl q
  · exact .inr (.inr ⟨c, s, px.str, py.str, z.here (d := .bl _) rfl q⟩)
theorem l_in : Lift2 K (rInW K) (W.isIn false) := fun N H x y v u k Q hN px py w z => by
  rcases l_inB false N H x y v u k Q hN px py w z with h | h | ⟨c, s, e1, e2, q⟩
  · exact .inl h
  · exact .inr (.inl h)
  · refine .inr (.inr ⟨c, s, e1, e2, ?_⟩)
    have e : (false != decide (c ∈ s.cps.toList)) = decide (c ∈ s.cps.toList) := by cases decide (c ∈ s.cps.toList) <;> rfl
    rw [e] at q
    exact q
theorem l_nin : Lift2 K (rNinW K) (W.isIn true) := fun N H x y v u k Q hN px py w z => by
  rcases l_inB true N H x y v u k Q hN px py w z with h | h | ⟨c, s, e1, e2, q⟩
  · exact .inl h
  · exact .inr (.inl h)
  · refine .inr (.inr ⟨c, s, e1, e2, ?_⟩)
    have e : (true != decide (c ∈ s.cps.toList)) = !decide (c ∈ s.cps.toList) := by cases decide (c ∈ s.cps.toList) <;> rfl
    rw [e] at q
    exact q
/-! ### places, parts -/
def W.ix : D → D → (D → Prop) → Prop
  | .lst xs, .int i, k => ∃ d, atI xs i = some d ∧ k d
  | .tup xs, .int i, k => ∃ d, atI xs i = some d ∧ k d
  | .str s, .int i, k => s.length ≤ sizeLine ∧ ∃ c, atI s.cps.toList i = some c ∧ k (.str ⟨#[c]⟩)
  | _, _, _ => False
theorem at_rep {N : No} {H : Hp} {xs : List D} {vs : List V} {i : Int} {d : D} (h2 : RepL K N H xs vs) (e : atI xs i = some d) : ∃ w, atI vs i = some w ∧ Rep K N H d w := by
  obtain ⟨j, e1, e2, _⟩ := atI_get e
  obtain ⟨w, e3, e4⟩ := h2.get e2
  refine ⟨w, ?_, e4⟩
  unfold atI at e ⊢
  rw [← h2.length]
  cases e5 : ixN xs.length i with
  | none =>
    rw [e5] at e
    cases e
  | some m =>
    rw [e5] at e
    have e6 : xs[m]? = some d := e
    obtain ⟨e7, _⟩ := ixN_seq e5
    rw [e1] at e7
    cases e7
    exact e3
theorem l_ix : Lift2 K (rIx K) W.ix := fun N H x y v u k Q hN px py w z => by
  cases x <;> cases y <;> first
    | exact (show False from w).elim
    | skip
  case lst.int xs i =>
    obtain ⟨d, e, q⟩ := w
    obtain ⟨a, vs, rfl, h1, h2⟩ := px.lst
    obtain ⟨w, e1, e2⟩ := at_rep h2 e
    exact .inl ⟨a, vs, i, w, rfl, py.int, h1, e1, z.here e2 q⟩
  case tup.int xs i =>
    obtain ⟨d, e, q⟩ := w
    obtain ⟨a, vs, rfl, h1, h2⟩ := px.tup
    obtain ⟨w, e1, e2⟩ := at_rep h2 e
    exact .inr (.inl ⟨a, vs, i, w, rfl, py.int, h1, e1, z.here e2 q⟩)
  case str.int s i =>
    obtain ⟨hs, c, e, q⟩ := w
    exact .inr (.inr ⟨s, i, c, px.str, py.int, hs, e, z.here (d := .str _) rfl q⟩)
def W.sl : D → Option Int → Option Int → (D → Prop) → Prop
  | .lst xs, i, j, k => k (.lst (cutD xs i j))
  | .tup xs, i, j, k => k (.tup (cutD xs i j))
  | .str s, i, j, k => s.length ≤ sizeLine ∧ k (.str (cutS s i j))
  | _, _, _, _ => False
def rSlS2 : V → Option Int → Option Int → Hp → VK → Prop := fun x lo hi H Q => ∃ z, x = .str z ∧ z.length ≤ sizeLine ∧ Q (.str (cutS z lo hi)) H
def rSlW (K : PySem.W.Frag) : V → Option Int → Option Int → Hp → VK → Prop := fun x lo hi H Q => rSlL K x lo hi H Q ∨ rSlA K x lo hi H Q ∨ rSlS2 x lo hi H Q
theorem slr_or {r r' : V → Option Int → Option Int → Hp → VK → Prop} (h : L2.SlR X r) (h' : L2.SlR X r') : L2.SlR X (fun x i j H Q => r x i j H Q ∨ r' x i j H Q) := by
  intro pins s σ H x v vl vu lo hi sl Q I rx hs pl pu q
  rcases q with q | q
  · exact h pins s σ H x v vl vu lo hi sl Q I rx hs pl pu q
  · exact h' pins s σ H x v vl vu lo hi sl Q I rx hs pl pu q
theorem sl_W : L2.SlR X (rSlW X.K) := slr_or sl_list (slr_or sl_tupA sl_str)
theorem l_sl (N : No) (H : Hp) (x : D) (v : V) (i j : Option Int) (k : D → Prop) (Q : VK) (hN : ∀ a, N a → H a ≠ none) (px : RepS K N H x v) (w : W.sl x i j k) (z : Post K N H k Q) : rSlW K v i j H Q := by
  cases x <;> first
    | exact (show False from w).elim
    | skip
  case str s => exact .inr (.inr ⟨s, px.str, w.1, z.here (d := .str _) rfl w.2⟩)
  case lst xs =>
    obtain ⟨a, vs, rfl, h1, h2⟩ := px.lst
    exact .inl ⟨a, vs, rfl, h1, fun p hp => z.newL hN hp (cut_rep h2 i j) w⟩
  case tup xs =>
    have pa := px.rep fun _ e => nomatch e
    obtain ⟨a, vs, rfl, h1, h2⟩ := px.tup
    refine .inr (.inl ⟨a, vs, rfl, h1, fun ⟨e1, e2⟩ => ?_, fun _ p hp => z.newT hN hp (cut_rep h2 i j) w⟩)
    have e3 : cutD xs i j = xs := by
      unfold cutD
      rw [h2.length, e1, e2, List.drop_zero, Nat.sub_zero, ← h2.length, List.take_length]
    have w' : k (.tup (cutD xs i j)) := w
    rw [e3] at w'
    exact z.here pa w'
/-- xs[::-1] of a list -/
def W.rev : D → (D → Prop) → Prop
  | .lst xs, k => k (.lst xs.reverse)
  | _, _ => False
end
end Dw

/-! Wp3: comprehensions, loops, calls over trees. -/
namespace Dw
open PySem PySem.Spec PyProof.Rows L2
section
variable {M : Md} {O : List Addr} {r : List Sl} {wi : TI} {g : TG} {tt : TT} {te : TE} {vs js : List Nat} {k : D → Prop}
/-- .. over an own list -/
theorem de_lcMu (hjs : ∀ j ∈ js, j ∈ vs) {i0 : Nat} {p0 : Addr} {xs : List D} (hi0 : r[i0]? = some (.mu p0 xs)) (hwi : wi = iSeq M.K (tVar i0)) (h : xs.length < sizeLine ∧ ∃ R : Nat → List D → Prop, R 0 [] ∧
    (∀ (O' : List Addr) (i : Nat) (x : D) (ys : List D), xs[i]? = some x → R i ys → DG M g js O' (wipeR r vs) x fun r2 => DT M tt O' r2 fun b => if b = true then De M te O' r2 fun y => R (i + 1) (ys ++ [y]) else R (i + 1) ys) ∧
    ∀ ys, R xs.length ys → k (.lst ys)) : De M (tLc wi g tt te vs) O r k := fun σ H Q R0 z => by
  subst hwi
  obtain ⟨hz, R, r0, turn, fin⟩ := h
  have R1 := R0
  have e1 : Sm M.F0 H H := .refl
  have at0 : ∀ {O' : List Addr} {H' : Hp}, Rp M O' r σ H' → ∃ vs, H' p0 = some (.lst vs) ∧ RepL M.K (nf M O') H' xs vs := fun R' => (R'.slot i0 _ hi0).2.2
  obtain ⟨s0, _⟩ := R0.slot i0 _ hi0
  obtain ⟨vs0, a1, _⟩ := at0 R0
  refine ⟨.ref p0, s0, p0, rfl, .inl ⟨⟨vs0, .inl (.inl a1)⟩, ?_⟩⟩
  intro Dl hD
  refine ⟨fun i m H2 => m = xs.length - i ∧ i ≤ xs.length ∧ ∃ ys acc, R i ys ∧ ys.length ≤ i ∧ H2 Dl = some (.lst acc) ∧ RepL M.K (nf M (Dl :: O)) H2 ys acc ∧ Rp M (Dl :: O) r σ H2 ∧ Sm M.F0 H H2,
    ⟨xs.length, by simp, Nat.zero_le _, [], [], r0, Nat.le_refl _, upd_same, .nil, R1.own1 hD, sm_0 (sm_new hD)⟩, ?_⟩
  rintro i m H2 ⟨hm, hi, ys, acc, hR, hy, hd, pa, R2, e2⟩
  subst hm
  by_cases hlt : i < xs.length
  · obtain ⟨us, b1, b2⟩ := at0 R2
    refine .inr ⟨⟨us, us[i]'(by rw [← b2.length]; exact hlt), .inl (.inl b1), List.getElem?_eq_getElem _⟩, _, fun H' p => ⟨xs.length - (i + 1), by omega, rfl, hlt, p⟩, fun x H3 y => ?_⟩
    have yy : Sm (fun _ => False) H2 H3 ∧ Rep M.K (nf M (Dl :: O)) H3 xs[i] x := by
      obtain ⟨e0, y⟩ := y
      obtain ⟨w0, y1, p3⟩ := b2.get (List.getElem?_eq_getElem hlt)
      have y2 := y us (.inl (.inl b1))
      rw [y1] at y2
      cases y2
      rw [e0]
      exact ⟨.refl, p3⟩
    obtain ⟨s3, p3⟩ := yy
    have R3 := R2.grow s3
    refine turn (Dl :: O) i _ ys (List.getElem?_eq_getElem hlt) hR x _ H3 _ (R3.wipe vs) p3 fun σ4 r4 R4 w4 q4 => ⟨?_, ?_⟩
    · rw [w4 vs hjs, wipe_wipe fun _ h => h]
    · refine q4 σ4 H3 _ R4 fun b H5 R5 e5 q5 => ?_
      have e35 : Sm M.F0 H2 H5 := (sm_0 s3).trans e5
      cases b with
      | false =>
        rw [if_neg Bool.false_ne_true] at q5 ⊢
        have R5' := R2.step e35 R5.inv
        have nD : ¬ M.F0 Dl := fun z => M.tr Dl (M.f0 Dl z) (R2.own Dl (by simp)).1
        exact ⟨ys, acc, q5, by omega, e35 Dl _ nD hd, pa.step e35, R5', e2.trans e35⟩
      | true =>
        rw [if_pos rfl] at q5 ⊢
        refine q5 σ4 H5 _ R5 fun v H6 d R6 e6 p6 q6 => ?_
        have e26 : Sm M.F0 H2 H6 := e35.trans e6
        have nD : ¬ M.F0 Dl := fun z => M.tr Dl (M.f0 Dl z) (R2.own Dl (by simp)).1
        have hd6 := e26 Dl _ nD hd
        have pa6 := pa.step e26
        refine ⟨acc, hd6, by rw [← pa.length]; omega, ys ++ [d], acc ++ [v], q6, by simp; omega, upd_same, ?_, ?_, ?_⟩
        · have e : Sm (nf M (Dl :: O)) H6 (upd H6 Dl (.lst (acc ++ [v]))) := fun a o n e => by
            rw [upd_ne fun z => n (.inr (by rw [z]; simp))]
            exact e
          exact (pa6.append (.one p6)).mono e
        · -- the own list is in no slot
          have R6' := R2.step e26 R6.inv
          have fp : M.H0 Dl = none := (R2.own Dl (by simp)).1
          have nin : ∀ (j : Nat) (zs : List D), r[j]? ≠ some (.mu Dl zs) := fun j zs e => (R1.own Dl (R1.slot j _ e).2.1).2 hD
          have e : Sm (nf M (Dl :: O)) H6 (upd H6 Dl (.lst (acc ++ [v]))) := fun a o n e => by
            rw [upd_ne fun z => n (.inr (by rw [z]; simp))]
            exact e
          refine ⟨fun a o n e => ?_, M.st H6 _ R6'.inv fun a o f e => ?_, fun a ha => ⟨(R6'.own a ha).1, ?_⟩, R6'.nod, R6'.len, fun j t ht => ?_, R6'.one⟩
          · rw [upd_ne (ne_of_none e fp)]
            exact R6'.sm a o n e
          · rw [upd_ne fun z => M.tr a (M.f0 a f) (by rw [z]; exact fp)]
            exact e
          · by_cases q : a = Dl
            · rw [q, upd_same]
              exact fun z => nomatch z
            · rw [upd_ne q]
              exact (R6'.own a ha).2
          · have h1 := R6'.slot j t ht
            cases t with
            | un => trivial
            | d x =>
              obtain ⟨u, e2, h2⟩ := h1
              exact ⟨u, e2, h2.mono e⟩
            | mu l zs =>
              obtain ⟨e2, hl, us, h2, h3⟩ := h1
              refine ⟨e2, hl, us, ?_, h3.mono e⟩
              rw [upd_ne fun z => nin j zs (by rw [← z]; exact ht)]
              exact h2
        · exact fun a o n e => by
            have ea := e2.trans e26 a o n e
            rw [upd_ne (ne_of_none e hD)]
            exact ea
  · have e : i = xs.length := by omega
    subst e
    obtain ⟨us, b1, b2⟩ := at0 R2
    refine .inl ⟨⟨us, .inl (.inl b1), by rw [← b2.length]; exact Nat.le_refl _⟩, ?_⟩
    have w : ∀ a, nf M O a → nf M (Dl :: O) a := fun a ha => ha.imp id (List.mem_cons_of_mem _)
    refine z (.ref Dl) H2 (.lst ys) (R1.step e2 R2.inv) (e1.trans e2) ⟨Dl, acc, rfl, .inl ⟨new_no R1 hD, .inl hd⟩, pa.less w⟩ (fin ys hR)
/-- the items that a comprehension makes: body gives each turn's item, or none -/
def W.comp (body : D → (Option D → Prop) → Prop) : List D → List D → (D → Prop) → Prop
  | [], acc, k => k (.lst acc)
  | x :: xs, acc, k => body x fun o => W.comp body xs (acc ++ o.toList) k
theorem ite_split {b : Bool} {p q P Q : Prop} (h : W.ite b p q) (hp : p → P) (hq : q → Q) : if b = true then P else Q := by
  cases b with
  | true => exact hp (h.1 rfl)
  | false => exact hq (h.2 rfl)
theorem comp_turns {body : D → (Option D → Prop) → Prop} {xs : List D} {k : D → Prop} (h : xs.length < sizeLine ∧ W.comp body xs [] k)
    (step : ∀ (O' : List Addr) (x : D) (q : Option D → Prop), body x q → DG M g js O' (wipeR r vs) x fun r2 => DT M tt O' r2 fun b => if b = true then De M te O' r2 fun y => q (some y) else q none) :
    xs.length < sizeLine ∧ ∃ R : Nat → List D → Prop, R 0 [] ∧
    (∀ (O' : List Addr) (i : Nat) (x : D) (ys : List D), xs[i]? = some x → R i ys → DG M g js O' (wipeR r vs) x fun r2 => DT M tt O' r2 fun b => if b = true then De M te O' r2 fun y => R (i + 1) (ys ++ [y]) else R (i + 1) ys) ∧
    ∀ ys, R xs.length ys → k (.lst ys) := by
  refine ⟨h.1, fun i ys => W.comp body (xs.drop i) ys k, h.2, fun O' i x ys hx hb => ?_, fun ys q => ?_⟩
  · have e : xs.drop i = x :: xs.drop (i + 1) := by
      have hi := (List.getElem?_eq_some_iff.mp hx).1
      rw [List.drop_eq_getElem_cons hi]
      rw [List.getElem?_eq_getElem hi] at hx
      cases hx
      rfl
    have hb : W.comp body (xs.drop i) ys k := hb
    rw [e] at hb
    have hb : body x fun o => W.comp body (xs.drop (i + 1)) (ys ++ o.toList) k := hb
    refine fun v σ H Q R pv z => step O' x _ hb v σ H Q R pv fun σ' r' R' w' q => z σ' r' R' w' (q.imp fun b hb => ?_)
    cases b with
    | true =>
      rw [if_pos rfl] at hb ⊢
      exact hb
    | false =>
      rw [if_neg Bool.false_ne_true] at hb ⊢
      have hb : W.comp body (xs.drop (i + 1)) (ys ++ []) k := hb
      rw [List.append_nil] at hb
      exact hb
  · have q : W.comp body (xs.drop xs.length) ys k := q
    rw [List.drop_length] at q
    exact q
theorem e_comp (body : D → (Option D → Prop) → Prop) (hjs : ∀ j ∈ js, j ∈ vs) (h : DI M wi O r fun xs => xs.length < sizeLine ∧ W.comp body xs [] k)
    (step : ∀ (O' : List Addr) (x : D) (q : Option D → Prop), body x q → DG M g js O' (wipeR r vs) x fun r2 => DT M tt O' r2 fun b => if b = true then De M te O' r2 fun y => q (some y) else q none) : De M (tLc wi g tt te vs) O r k :=
  de_lc hjs fun σ H Q R z => h σ H Q R fun J H1 xs Wx R1 e1 g1 q => z J H1 xs Wx R1 e1 g1 (comp_turns q step)
theorem e_compMu (body : D → (Option D → Prop) → Prop) (hjs : ∀ j ∈ js, j ∈ vs) {i0 : Nat} {p0 : Addr} {xs : List D} (hi0 : r[i0]? = some (.mu p0 xs)) (h : xs.length < sizeLine ∧ W.comp body xs [] k)
    (step : ∀ (O' : List Addr) (x : D) (q : Option D → Prop), body x q → DG M g js O' (wipeR r vs) x fun r2 => DT M tt O' r2 fun b => if b = true then De M te O' r2 fun y => q (some y) else q none) : De M (tLc (iSeq M.K (tVar i0)) g tt te vs) O r k :=
  de_lcMu hjs hi0 rfl (comp_turns h step)
end
/-! ### targets -/
def W.un2 : D → (D → D → Prop) → Prop
  | .tup [a, b], k => k a b
  | _, _ => False
def W.un3 : D → (D → D → D → Prop) → Prop
  | .tup [a, b, c], k => k a b c
  | _, _ => False
theorem un2_e {x : D} {k : D → D → Prop} (h : W.un2 x k) : ∃ a b, x = .tup [a, b] ∧ k a b := by
  unfold W.un2 at h
  split at h
  · exact ⟨_, _, rfl, h⟩
  · exact h.elim
theorem un3_e {x : D} {k : D → D → D → Prop} (h : W.un3 x k) : ∃ a b c, x = .tup [a, b, c] ∧ k a b c := by
  unfold W.un3 at h
  split at h
  · exact ⟨_, _, _, rfl, h⟩
  · exact h.elim
section
variable {M : Md} {O : List Addr} {r : List Sl} {k : List Sl → Prop}
theorem dg_un2 {i j : Nat} {x : D} {f : D → D → Prop} (h : W.un2 x f) (q : ∀ a b, f a b → k ((r.set i (.d a)).set j (.d b))) : DG M (gTup M.K 2 (gCons (gName i) (gCons (gName j) gNil))) [i, j] O r x k := by
  obtain ⟨a, b, rfl, f1⟩ := un2_e h
  exact dg_tup (js := [i, j]) rfl (dgs_cons (js := [i]) (ls := [j]) (dg_name (dgs_cons (js := [j]) (ls := []) (dg_name (dgs_nil (q a b f1))))))
theorem dg_un3 {i j l : Nat} {x : D} {f : D → D → D → Prop} (h : W.un3 x f) (q : ∀ a b c, f a b c → k (((r.set i (.d a)).set j (.d b)).set l (.d c))) : DG M (gTup M.K 3 (gCons (gName i) (gCons (gName j) (gCons (gName l) gNil)))) [i, j, l] O r x k := by
  obtain ⟨a, b, c, rfl, f1⟩ := un3_e h
  exact dg_tup (js := [i, j, l]) rfl (dgs_cons (js := [i]) (ls := [j, l]) (dg_name (dgs_cons (js := [j]) (ls := [l]) (dg_name (dgs_cons (js := [l]) (ls := []) (dg_name (dgs_nil (q a b c f1))))))))
end
/-! ### what is walked -/
def W.seq : D → (List D → Prop) → Prop
  | .lst xs, k => k xs
  | .tup xs, k => k xs
  | _, _ => False
theorem seq_e {x : D} {k : List D → Prop} (h : W.seq x k) : ∃ xs, (x = .lst xs ∨ x = .tup xs) ∧ k xs := by
  unfold W.seq at h
  split at h
  · exact ⟨_, .inl rfl, h⟩
  · exact ⟨_, .inr rfl, h⟩
  · exact h.elim
section
variable {M : Md} {O : List Addr} {r : List Sl} {kl : List D → Prop} {te : TE} {ta : TA}
theorem DI.imp {wi : TI} {k' : List D → Prop} (h : DI M wi O r kl) (i : ∀ d, kl d → k' d) : DI M wi O r k' := fun σ H Q R z => h σ H Q R fun J H1 xs W R1 e1 g1 q => z J H1 xs W R1 e1 g1 (i xs q)
theorem i_seq (h : De M te O r fun x => W.seq x kl) : DI M (iSeq M.K te) O r kl := di_seq (h.imp fun _ q => seq_e q)
def W.enum (x : D) (k : List D → Prop) : Prop := ∃ xs, x = .lst xs ∧ k (enumD xs)
theorem i_enum (h : De M te O r fun x => W.enum x kl) : DI M (iEnum M.K (tCons te tNil)) O r kl := di_enum (da_cons (h.imp fun x ⟨xs, e, q⟩ => da_nil ⟨xs, by rw [e], q⟩))
def W.range1 : D → (List D → Prop) → Prop
  | .int n, k => (-(2 ^ 62) ≤ n ∧ n < 2 ^ 62) ∧ k (rangeD 0 n.toNat)
  | _, _ => False
theorem range1_e {x : D} {k : List D → Prop} (h : W.range1 x k) : ∃ n : Int, x = .int n ∧ (-(2 ^ 62) ≤ n ∧ n < 2 ^ 62) ∧ k (rangeD 0 n.toNat) := by
  cases x <;> first
    | exact (show False from h).elim
    | exact ⟨_, rfl, h⟩
theorem i_range1 (h : De M te O r fun x => W.range1 x kl) : DI M (iRng1 (tCons te tNil)) O r kl := di_range1 (da_cons (h.imp fun x q => by
  obtain ⟨n, rfl, b, q⟩ := range1_e q
  exact da_nil ⟨n, rfl, b, q⟩))
def W.range2 : D → D → (List D → Prop) → Prop
  | .int m, .int n, k => (-(2 ^ 62) ≤ m ∧ m < 2 ^ 62 ∧ -(2 ^ 62) ≤ n ∧ n < 2 ^ 62) ∧ k (rangeD m (n - m).toNat)
  | _, _, _ => False
theorem i_range2 {tb : TE} (h : De M te O r fun x => De M tb O r fun y => W.range2 x y kl) : DI M (iRng2 (tCons te (tCons tb tNil))) O r kl := di_range2 (da_cons (h.imp fun x q => da_cons (q.imp fun y w => by
  cases x <;> first
    | exact (show False from w).elim
    | skip
  cases y <;> first
    | exact (show False from w).elim
    | skip
  exact da_nil ⟨_, _, rfl, w.1, w.2⟩)))
/-- zip of two lists -/
def zipD (xs ys : List D) : List D := xs.zipWith (fun x y => D.tup [x, y]) ys
def wk_zip (K : PySem.W.Frag) (a b : Addr) (xs ys : List D) : Wk K (Itz K a b) (zipD xs ys) where
  G := fun N H => ∃ vs ws, (LAt K N H a vs ∧ RepL K N H xs vs) ∧ LAt K N H b ws ∧ RepL K N H ys ws
  mono := fun N H H' e ⟨vs, ws, ⟨h1, h2⟩, h3, h4⟩ => ⟨vs, ws, ⟨h1.mono e, h2.mono e⟩, h3.mono e, h4.mono e⟩
  gen := fun N N' H e ⟨vs, ws, ⟨h1, h2⟩, h3, h4⟩ => ⟨vs, ws, ⟨h1.gen e, h2.gen e⟩, h3.gen e, h4.gen e⟩
  go := fun N H i ⟨vs, ws, ⟨h1, h2⟩, h3, h4⟩ hi => by
    have hi : i < min xs.length ys.length := by
      unfold zipD at hi
      rw [List.length_zipWith] at hi
      exact hi
    have l1 : i < vs.length := by rw [← h2.length]; omega
    have l2 : i < ws.length := by rw [← h4.length]; omega
    exact ⟨vs, ws, vs[i], ws[i], h1.sq, h3.sq, List.getElem?_eq_getElem _, List.getElem?_eq_getElem _⟩
  yld := fun N H i x H' d hN ⟨vs, ws, ⟨h1, h2⟩, h3, h4⟩ y hd => by
    obtain ⟨T, v, w, rfl, nT, rfl, y1, y2⟩ := y
    unfold zipD at hd
    rw [List.getElem?_zipWith] at hd
    split at hd
    case h_2 => cases hd
    rename_i a0 b0 ea eb
    cases hd
    obtain ⟨v', q2, q3⟩ := h2.get ea
    obtain ⟨w', q4, q5⟩ := h4.get eb
    have z1 := y1 vs h1.sq
    have z2 := y2 ws h3.sq
    rw [q2] at z1
    rw [q4] at z2
    cases z1
    cases z2
    exact ⟨sm_new nT, T, _, rfl, .inl ⟨fun z => hN T z nT, .inl upd_same⟩, .cons (q3.mono (sm_0 (sm_new nT))) (.one (q5.mono (sm_0 (sm_new nT))))⟩
  stop := fun N H i ⟨vs, ws, ⟨h1, h2⟩, h3, h4⟩ hi => by
    unfold zipD at hi
    rw [List.length_zipWith] at hi
    exact ⟨vs, ws, h1.sq, h3.sq, by rw [← h2.length, ← h4.length]; omega⟩
def W.zip : D → D → (List D → Prop) → Prop
  | .lst xs, .lst ys, k => k (zipD xs ys)
  | _, _, _ => False
theorem i_zip {tb : TE} (h : De M te O r fun x => De M tb O r fun y => W.zip x y kl) : DI M (iZip M.K (tCons te (tCons tb tNil))) O r kl := fun σ H Q R z => by
  refine h σ H _ R fun v H1 x R1 e1 p1 h1 => h1 σ H1 _ R1 fun u H2 y R2 e2 p2 w => ?_
  cases x <;> first
    | exact (show False from w).elim
    | skip
  cases y <;> first
    | exact (show False from w).elim
    | skip
  obtain ⟨a, vs, rfl, h1, h2⟩ := p1.step e2
  obtain ⟨b, ws, rfl, h3, h4⟩ := p2
  exact ⟨a, b, vs, ws, rfl, h1.sq, h3.sq, z _ H2 _ (wk_zip M.K a b _ _) R2 (e1.trans e2) ⟨vs, ws, ⟨h1, h2⟩, h3, h4⟩ w⟩
end
/-! ### loops -/
/-- for: body turns the state; nx goes on, bk leaves the loop -/
def W.forL {S : Type} (body : D → S → (S → Prop) → (S → Prop) → Prop) : List D → S → (S → Prop) → Prop
  | [], s, k => k s
  | x :: xs, s, k => body x s (fun s' => W.forL body xs s' k) k
section
variable {M : Md} {O : List Addr} {r : List Sl} {wi : TI} {g : TG} {tb ts tz : TS} {js : List Nat} {E : Kn}
/-- the slots tell the state -/
def stK {S : Type} (O : List Addr) (enc : S → List Sl → Prop) (p : S → Prop) : List Addr → List Sl → Prop := fun O' r' => O' = O ∧ ∃ s, enc s r' ∧ p s
theorem stK_mk {S : Type} {O : List Addr} {enc : S → List Sl → Prop} {p : S → Prop} {r' : List Sl} (s : S) (h : p s) (e : enc s r') : stK O enc p O r' := ⟨rfl, s, e, h⟩
theorem ds_nextK {S : Type} {enc : S → List Sl → Prop} {p : S → Prop} (hE : E.nx = stK O enc p) (s : S) (h : p s) (e : enc s r) : DS M tNext O r E := ds_next (by rw [hE]; exact ⟨rfl, s, e, h⟩)
theorem ds_breakK {S : Type} {enc : S → List Sl → Prop} {p : S → Prop} (hE : E.bk = stK O enc p) (s : S) (h : p s) (e : enc s r) : DS M tBreak O r E := ds_break (by rw [hE]; exact ⟨rfl, s, e, h⟩)
theorem ds_contK {S : Type} {enc : S → List Sl → Prop} {p : S → Prop} (hE : E.ct = stK O enc p) (s : S) (h : p s) (e : enc s r) : DS M tCont O r E := ds_cont (by rw [hE]; exact ⟨rfl, s, e, h⟩)
theorem ds_mid0 (Q : List Addr → List Sl → Prop) (h1 : DS M ts O r { E with nx := Q }) (h2 : ∀ O r, Q O r → DS M tz O r E) : DS M (tSeq ts tz) O r E := ds_seq (h1.imp h2 (fun _ h => h) (fun _ _ h => h) fun _ _ h => h)
theorem s_for {S : Type} (enc : S → List Sl → Prop) (body : D → S → (S → Prop) → (S → Prop) → Prop) (s0 : S) (p : S → Prop) (h : DI M wi O r fun xs => W.forL body xs s0 p) (h0 : enc s0 r)
    (turn : ∀ (x : D) (s : S) (r' : List Sl) (nx bk : S → Prop), enc s r' → body x s nx bk → DG M g js O r' x fun r2 => DS M tb O r2 { E with nx := stK O enc nx, ct := stK O enc nx, bk := stK O enc bk })
    (fin : ∀ (s : S) (r' : List Sl), enc s r' → p s → DS M tz O r' E) : DS M (tSeq (tFor wi g tb) tz) O r E :=
  ds_seq (ds_for (js := js) (fun σ H Q R z => h σ H Q R fun J H1 xs Wx R1 e1 g1 q => z J H1 xs Wx R1 e1 g1 ⟨fun i O' r' => O' = O ∧ ∃ s, enc s r' ∧ W.forL body (xs.drop i) s p, ⟨rfl, s0, h0, q⟩, fun i x O' r' hx ⟨eO, s, he, hb⟩ => by
    subst eO
    have hi := (List.getElem?_eq_some_iff.mp hx).1
    rw [List.drop_eq_getElem_cons hi] at hb
    rw [List.getElem?_eq_getElem hi] at hx
    cases hx
    have hb : body xs[i] s (fun s' => W.forL body (xs.drop (i + 1)) s' p) p := hb
    refine fun v σ H Q R pv z => turn _ s r' _ _ he hb v σ H Q R pv fun σ' r2 R' w' q => z σ' r2 R' w' (q.imp (fun O2 r3 q => q) (fun _ q => q) (fun O2 r3 ⟨eO2, s2, he2, hp2⟩ => ?_) fun O2 r3 q => q)
    subst eO2
    exact fin s2 r3 he2 hp2, fun O' r' ⟨eO, s, he, hb⟩ => by
    subst eO
    rw [List.drop_length] at hb
    exact fin s r' he hb⟩))
/-- while: n turns at most -/
def W.whileN {S : Type} (c : S → (Bool → Prop) → Prop) (body : S → (S → Prop) → (S → Prop) → Prop) (k : S → Prop) : Nat → S → Prop
  | 0, _ => False
  | n + 1, s => c s fun b => W.ite b (body s (fun s' => W.whileN c body k n s') k) (k s)
theorem s_while {S : Type} (enc : S → List Sl → Prop) (c : S → (Bool → Prop) → Prop) (body : S → (S → Prop) → (S → Prop) → Prop) (s0 : S) (p : S → Prop) {tc : TT} (h : ∃ n, W.whileN c body p n s0) (h0 : enc s0 r)
    (test : ∀ (s : S) (r' : List Sl) (q : Bool → Prop), enc s r' → c s q → DT M tc O r' q)
    (turn : ∀ (s : S) (r' : List Sl) (nx bk : S → Prop), enc s r' → body s nx bk → DS M tb O r' { E with nx := stK O enc nx, ct := stK O enc nx, bk := stK O enc bk })
    (fin : ∀ (s : S) (r' : List Sl), enc s r' → p s → DS M tz O r' E) : DS M (tSeq (tWhile tc tb) tz) O r E := by
  obtain ⟨n0, h⟩ := h
  refine ds_seq fun σ H Z R z => ?_
  refine ⟨fun n σ2 H2 => ∃ s r2, W.whileN c body p n s ∧ enc s r2 ∧ Rp M O r2 σ2 H2 ∧ Stp M O H O H2, ⟨n0, s0, r, h, h0, R, .refl⟩, ?_⟩
  rintro n σ2 H2 ⟨s, r2, hw, he, R2, s2⟩
  cases n with
  | zero => exact (show False from hw).elim
  | succ n =>
    have hw : c s fun b => W.ite b (body s (fun s' => W.whileN c body p n s') p) (p s) := hw
    refine test s r2 _ he hw σ2 H2 _ R2 fun b H3 R3 e3 q3 => ?_
    have s3 : Stp M O H O H3 := Stp.trans R2.inv s2 (R3.stp e3)
    cases b with
    | false => exact z.nx O r2 σ2 H3 R3 s3 (fin s r2 he (q3.2 rfl))
    | true =>
      refine ⟨fun σ5 H5 => ∃ s5 r5, W.whileN c body p n s5 ∧ enc s5 r5 ∧ Rp M O r5 σ5 H5 ∧ Stp M O H O H5, fun σ5 H5 ⟨s5, r5, a, b, d, f⟩ => ⟨n, Nat.lt_succ_self n, s5, r5, a, b, d, f⟩, ?_⟩
      refine turn s r2 _ _ he (q3.1 rfl) σ2 H3 _ R3 ⟨fun O5 r5 σ5 H5 R5 st5 ⟨eO, s5, he5, q5⟩ => ?_, fun v H5 d s1 i1 p1 q5 => z.rt v H5 d s1 i1 p1 q5, fun O5 r5 σ5 H5 R5 st5 ⟨eO, s5, he5, q5⟩ => ?_, fun O5 r5 σ5 H5 R5 st5 ⟨eO, s5, he5, q5⟩ => ?_⟩
      · subst eO
        exact ⟨s5, r5, q5, he5, R5, Stp.trans R3.inv s3 st5⟩
      · subst eO
        exact z.nx _ r5 σ5 H5 R5 (Stp.trans R3.inv s3 st5) (fin s5 r5 he5 q5)
      · subst eO
        exact ⟨s5, r5, q5, he5, R5, Stp.trans R3.inv s3 st5⟩
/-- ways that join behind an if -/
theorem s_if {S : Type} (enc : S → List Sl → Prop) {tt : TT} {m : (S → Prop) → Prop} {p : S → Prop} (h : W.join m p) (ways : m p → DT M tt O r fun b => if b = true then DS M ts O r { E with nx := stK O enc p } else DS M tb O r { E with nx := stK O enc p })
    (fin : ∀ (s : S) (r' : List Sl), enc s r' → p s → DS M tz O r' E) : DS M (tSeq (tIfS tt ts tb) tz) O r E :=
  ds_mid0 (stK O enc p) (ds_if (ways h)) fun O' r' ⟨eO, s, he, hp⟩ => by
    subst eO
    exact fin s r' he hp
/-- an if of which one way at most goes on -/
theorem s_ifR {tt : TT} (h : DT M tt O r fun b => if b = true then DS M ts O r { E with nx := fun O1 r1 => DS M tz O1 r1 E } else DS M tb O r { E with nx := fun O1 r1 => DS M tz O1 r1 E }) : DS M (tSeq (tIfS tt ts tb) tz) O r E := ds_seq (ds_if h)
end
/-! ### calls -/
/-- a promise by what is asked -/
def SpW (K : PySem.W.Frag) (S : Sg) (w : S.G → List D → (D → Prop) → Prop) : Sp := fun vs H Q _ =>
  ∃ (g : S.G) (ds : List D) (F : No) (k : D → Prop), RepL K F H ds vs ∧ (∀ a, S.F0 g a → F a) ∧ (∀ a, F a → H a ≠ none) ∧ S.I g H ∧ w g ds k ∧
    ∀ v H' d, Sm (S.F0 g) H H' → S.I g H' → Rep K F H' d v → k d → Q v H'
abbrev SpP0 (K : PySem.W.Frag) (w : List D → (D → Prop) → Prop) : Sp := SpW K pure0 fun _ => w
/-- a def that has the source of draws as its first argument -/
def dealW (w : List D → (D → Prop) → Prop) : Addr × Addr → List D → (D → Prop) → Prop := fun g ds k => ∃ r, ds = .ref g.1 :: r ∧ w r k
abbrev SpDl (K : PySem.W.Frag) (w : List D → (D → Prop) → Prop) : Sp := SpW K dealS (dealW w)
def W.a0 (w : (D → Prop) → Prop) : List D → (D → Prop) → Prop
  | [], k => w k
  | _, _ => False
def W.a1 (w : D → (D → Prop) → Prop) : List D → (D → Prop) → Prop
  | [a], k => w a k
  | _, _ => False
def W.a2 (w : D → D → (D → Prop) → Prop) : List D → (D → Prop) → Prop
  | [a, b], k => w a b k
  | _, _ => False
def W.a3 (w : D → D → D → (D → Prop) → Prop) : List D → (D → Prop) → Prop
  | [a, b, c], k => w a b c k
  | _, _ => False
def W.a4 (w : D → D → D → D → (D → Prop) → Prop) : List D → (D → Prop) → Prop
  | [a, b, c, d], k => w a b c d k
  | _, _ => False
theorem a0_e {w : (D → Prop) → Prop} {ds : List D} {k : D → Prop} (h : W.a0 w ds k) : ds = [] ∧ w k := by
  unfold W.a0 at h
  split at h
  · exact ⟨rfl, h⟩
  · exact h.elim
theorem a1_e {w : D → (D → Prop) → Prop} {ds : List D} {k : D → Prop} (h : W.a1 w ds k) : ∃ a, ds = [a] ∧ w a k := by
  unfold W.a1 at h
  split at h
  · exact ⟨_, rfl, h⟩
  · exact h.elim
theorem a2_e {w : D → D → (D → Prop) → Prop} {ds : List D} {k : D → Prop} (h : W.a2 w ds k) : ∃ a b, ds = [a, b] ∧ w a b k := by
  unfold W.a2 at h
  split at h
  · exact ⟨_, _, rfl, h⟩
  · exact h.elim
theorem a3_e {w : D → D → D → (D → Prop) → Prop} {ds : List D} {k : D → Prop} (h : W.a3 w ds k) : ∃ a b c, ds = [a, b, c] ∧ w a b c k := by
  unfold W.a3 at h
  split at h
  · exact ⟨_, _, _, rfl, h⟩
  · exact h.elim
theorem a4_e {w : D → D → D → D → (D → Prop) → Prop} {ds : List D} {k : D → Prop} (h : W.a4 w ds k) : ∃ a b c d, ds = [a, b, c, d] ∧ w a b c d k := by
  unfold W.a4 at h
  split at h
  · exact ⟨_, _, _, _, rfl, h⟩
  · exact h.elim
section
variable {M : Md} {O : List Addr} {r : List Sl} {k : D → Prop} {tl : TA} {Ex : XK}
theorem e_callW {S : Sg} {w : S.G → List D → (D → Prop) → Prop} (g : S.G) (h0 : M.F0 = S.F0 g) (hI : M.I = S.I g) (h : DA M tl O r fun ds => w g ds k) : De M (tCall (SpW M.K S w) [] Ex tl) O r k := fun σ H Q R z => by
  refine h σ H _ R fun vs H1 ds R1 e1 p1 q => ?_
  rw [List.append_nil]
  refine ⟨g, ds, nf M O, k, p1, fun a x => .inl (M.f0 a (by rw [h0]; exact x)), nf_tr R1, by rw [← hI]; exact R1.inv, q, fun v H2 d s i p po => ?_⟩
  have s' : Sm M.F0 H1 H2 := by rw [h0]; exact s
  exact z v H2 d (R1.step s' (by rw [hI]; exact i)) (e1.trans s') p po
theorem e_callP {w : List D → (D → Prop) → Prop} (h : DA M tl O r fun ds => w ds k) : De M (tCall (SpP0 M.K w) [] Ex tl) O r k := fun σ H Q R z => by
  refine h σ H _ R fun vs H1 ds R1 e1 p1 q => ?_
  rw [List.append_nil]
  exact ⟨(), ds, nf M O, k, p1, fun a x => x.elim, nf_tr R1, trivial, q, fun v H2 d s i p po => z v H2 d (R1.grow s) (e1.trans (sm_0 s)) p po⟩
theorem e_callD {w : List D → (D → Prop) → Prop} (g : Addr × Addr) (h0 : M.F0 = dealS.F0 g) (hI : M.I = dealS.I g) {i : Nat} (hi : r[i]? = some (.d (.ref g.1))) (h : DA M tl O r fun ds => w ds k) : De M (tCall (SpDl M.K w) [] Ex (tCons (tVar i) tl)) O r k :=
  e_callW (S := dealS) g h0 hI (da_cons (de_var hi (h.imp fun ds q => ⟨ds, rfl, q⟩)))
variable {t1 t2 t3 t4 : TE}
theorem e_callP0 {w : (D → Prop) → Prop} (h : w k) : De M (tCall (SpP0 M.K (W.a0 w)) [] Ex tNil) O r k := e_callP (da_nil h)
theorem e_callP1 {w : D → (D → Prop) → Prop} (h : De M t1 O r fun a => w a k) : De M (tCall (SpP0 M.K (W.a1 w)) [] Ex (tCons t1 tNil)) O r k := e_callP (da_cons (h.imp fun a h => da_nil h))
theorem e_callP2 {w : D → D → (D → Prop) → Prop} (h : De M t1 O r fun a => De M t2 O r fun b => w a b k) : De M (tCall (SpP0 M.K (W.a2 w)) [] Ex (tCons t1 (tCons t2 tNil))) O r k := e_callP (da_cons (h.imp fun a h => da_cons (h.imp fun b h => da_nil h)))
theorem e_callP3 {w : D → D → D → (D → Prop) → Prop} (h : De M t1 O r fun a => De M t2 O r fun b => De M t3 O r fun c => w a b c k) : De M (tCall (SpP0 M.K (W.a3 w)) [] Ex (tCons t1 (tCons t2 (tCons t3 tNil)))) O r k := e_callP (da_cons (h.imp fun a h => da_cons (h.imp fun b h => da_cons (h.imp fun c h => da_nil h))))
theorem e_callP4 {w : D → D → D → D → (D → Prop) → Prop} (h : De M t1 O r fun a => De M t2 O r fun b => De M t3 O r fun c => De M t4 O r fun d => w a b c d k) : De M (tCall (SpP0 M.K (W.a4 w)) [] Ex (tCons t1 (tCons t2 (tCons t3 (tCons t4 tNil))))) O r k := e_callP (da_cons (h.imp fun a h => da_cons (h.imp fun b h => da_cons (h.imp fun c h => da_cons (h.imp fun d h => da_nil h)))))
section
variable {i : Nat} (g : Addr × Addr) (h0 : M.F0 = dealS.F0 g) (hI : M.I = dealS.I g) (hi : r[i]? = some (.d (.ref g.1)))
include h0 hI hi
theorem e_callD0 {w : (D → Prop) → Prop} (h : w k) : De M (tCall (SpDl M.K (W.a0 w)) [] Ex (tCons (tVar i) tNil)) O r k := e_callD g h0 hI hi (da_nil h)
theorem e_callD1 {w : D → (D → Prop) → Prop} (h : De M t1 O r fun a => w a k) : De M (tCall (SpDl M.K (W.a1 w)) [] Ex (tCons (tVar i) (tCons t1 tNil))) O r k := e_callD g h0 hI hi (da_cons (h.imp fun a h => da_nil h))
theorem e_callD2 {w : D → D → (D → Prop) → Prop} (h : De M t1 O r fun a => De M t2 O r fun b => w a b k) : De M (tCall (SpDl M.K (W.a2 w)) [] Ex (tCons (tVar i) (tCons t1 (tCons t2 tNil)))) O r k := e_callD g h0 hI hi (da_cons (h.imp fun a h => da_cons (h.imp fun b h => da_nil h)))
theorem e_callD3 {w : D → D → D → (D → Prop) → Prop} (h : De M t1 O r fun a => De M t2 O r fun b => De M t3 O r fun c => w a b c k) : De M (tCall (SpDl M.K (W.a3 w)) [] Ex (tCons (tVar i) (tCons t1 (tCons t2 (tCons t3 tNil))))) O r k := e_callD g h0 hI hi (da_cons (h.imp fun a h => da_cons (h.imp fun b h => da_cons (h.imp fun c h => da_nil h))))
end
end
section
variable {P : Program} {w : World} {K : PySem.W.Frag} {mg : Str → Option Value} {base : Heap}
/-- a def by its body -/
theorem fn_w {x qual : Str} {st : Stmt} {f : Addr} {fd : FuncData} {N ps : List Str} {k : Nat} {S : Sg} {W : S.G → List D → (D → Prop) → Prop} (F : Fun K x qual st f fd) (T : FnScope N ps (defScope st))
    (len : ∀ g ds k, W g ds k → ds.length = ps.length)
    (body : ∀ (cdv : Value) (A : Around) (outer : List Env) (s : Shared) (H : Hp) (E : XK) (g : S.G) (ds : List D) (kr : D → Prop) (F1 : No) (f0 : ∀ a, S.F0 g a → F1 a) (tr : ∀ a, F1 a → H a ≠ none), Room k (A.deeper (envOfC qual (defScope st) s.heap.objs.size f cdv)) → W g ds kr →
      ∃ t, PSs (cxOf CX0 P w K mg base N qual (defScope st) f cdv A outer s H E).nox (defBody st) t ∧ DS (mdOf K S g H F1 f0 tr) t [] (startR N.length ds) { nx := fun _ _ => kr .non, rt := kr }) : FnOk P w K mg base CX0 (k + 1) f fd ps (SpW K S W) := by
  refine F.ok T (fun vs H Q E h => ?_) (fun cdv A outer s H vs Q E hr h => ?_)
  · obtain ⟨g, ds, F1, kr, p, _, _, _, q, _⟩ := h
    rw [← p.length, len g ds kr q]
  · obtain ⟨g, ds, F1, kr, p, f0, tr, i, q, z⟩ := h
    obtain ⟨t, ht, hd⟩ := body cdv A outer s H E g ds kr F1 f0 tr hr q
    refine ⟨t, ht, hd _ H _ (start_rp (M := mdOf K S g H F1 f0 tr) p i) ⟨fun O r σ H1 R a q => z .non H1 .non R.sm R.inv rfl q, fun v H1 d s1 i1 p1 q => z v H1 d s1 i1 p1 q, fun _ _ _ _ _ _ q => q.elim, fun _ _ _ _ _ _ q => q.elim⟩⟩
theorem fng_w {x qual : Str} {st : Stmt} {f : Addr} {fd : FuncData} {N ps : List Str} {k : Nat} {S : Sg} {W : S.G → List D → (D → Prop) → Prop} (F : Fun K x qual st f fd) (T : FnScope N ps (defScope st))
    (len : ∀ g ds k, W g ds k → ds.length = ps.length)
    (body : ∀ (cdv : Value) (A : Around) (outer : List Env) (s : Shared) (H : Hp) (E : XK) (g : S.G) (ds : List D) (kr : D → Prop) (F1 : No) (f0 : ∀ a, S.F0 g a → F1 a) (tr : ∀ a, F1 a → H a ≠ none), A.guards = some [] → Room k (A.deeper (envOfC qual (defScope st) s.heap.objs.size f cdv)) → W g ds kr →
      ∃ t, PSs (cxOf CX0 P w K mg base N qual (defScope st) f cdv A outer s H E).nox (defBody st) t ∧ DS (mdOf K S g H F1 f0 tr) t [] (startR N.length ds) { nx := fun _ _ => kr .non, rt := kr }) : FnG P w K mg base (k + 1) f fd ps (SpW K S W) := by
  refine fng_of F T (fun vs H Q E h => ?_) (fun cdv A outer s H vs Q E hg hr h => ?_)
  · obtain ⟨g, ds, F1, kr, p, _, _, _, q, _⟩ := h
    rw [← p.length, len g ds kr q]
  · obtain ⟨g, ds, F1, kr, p, f0, tr, i, q, z⟩ := h
    obtain ⟨t, ht, hd⟩ := body cdv A outer s H E g ds kr F1 f0 tr hg hr q
    refine ⟨t, ht, hd _ H _ (start_rp (M := mdOf K S g H F1 f0 tr) p i) ⟨fun O r σ H1 R a q => z .non H1 .non R.sm R.inv rfl q, fun v H1 d s1 i1 p1 q => z v H1 d s1 i1 p1 q, fun _ _ _ _ _ _ q => q.elim, fun _ _ _ _ _ _ q => q.elim⟩⟩
end
end Dw

/-! Wp4: built-ins over trees. -/
namespace Dw
open PySem PySem.Spec PyProof.Rows L2
section
variable {X : Cx} {K : PySem.W.Frag}
theorem RepSL.one {N : No} {H : Hp} {x : D} {vs : List V} (h : RepSL K N H [x] vs) : ∃ v, vs = [v] ∧ RepS K N H x v := by
  obtain ⟨v, r, e, h1, h2⟩ := h
  obtain rfl := (show r = [] from h2)
  exact ⟨v, e, h1⟩
theorem RepSL.two {N : No} {H : Hp} {x y : D} {vs : List V} (h : RepSL K N H [x, y] vs) : ∃ v u, vs = [v, u] ∧ RepS K N H x v ∧ RepS K N H y u := by
  obtain ⟨v, r, rfl, h1, h2⟩ := h
  obtain ⟨u, rfl, h3⟩ := RepSL.one h2
  exact ⟨v, u, rfl, h1, h3⟩
theorem RepS.seq {N : No} {H : Hp} {x : D} {xs : List D} {v : V} (c : x = .lst xs ∨ x = .tup xs) (h : RepS K N H x v) : ∃ a vs, v = .ref a ∧ (SqL K H a vs ∨ SqT K H a vs) ∧ RepL K N H xs vs := by
  rcases c with rfl | rfl
  · obtain ⟨a, vs, e, h1, h2⟩ := h.lst
    exact ⟨a, vs, e, .inl h1, h2⟩
  · obtain ⟨a, vs, e, h1, h2⟩ := h.tup
    exact ⟨a, vs, e, .inr h1, h2⟩
/-! ### len -/
def W.len : List D → (D → Prop) → Prop
  | [.lst xs], k => k (.int xs.length)
  | [.tup xs], k => k (.int xs.length)
  | [.str s], k => s.length ≤ sizeLine ∧ k (.int s.length)
  | _, _ => False
def rLenW (K : PySem.W.Frag) : List V → Hp → VK → Prop := fun xs H Q => (∃ p ys, xs = [.ref p] ∧ (SqL K H p ys ∨ SqT K H p ys) ∧ Q (.int ys.length) H) ∨ ∃ z, xs = [.str z] ∧ z.length ≤ sizeLine ∧ Q (.int z.length) H
theorem call_lenW : CallR X (.builtin "len") (rLenW X.K) := CallR.or call_len_seq call_len_str
theorem l_len : LiftL K (rLenW K) W.len := fun N H ds vs k Q hN p w z => by
  unfold W.len at w
  split at w
  · obtain ⟨v, rfl, h⟩ := p.one
    obtain ⟨a, vs, rfl, h1, h2⟩ := h.lst
    exact .inl ⟨a, vs, rfl, .inl h1, by rw [← h2.length]; exact z.here (d := .int _) rfl w⟩
  · obtain ⟨v, rfl, h⟩ := p.one
    obtain ⟨a, vs, rfl, h1, h2⟩ := h.tup
    exact .inl ⟨a, vs, rfl, .inr h1, by rw [← h2.length]; exact z.here (d := .int _) rfl w⟩
  · obtain ⟨v, rfl, h⟩ := p.one
    obtain rfl := h.str
    exact .inr ⟨_, rfl, w.1, z.here (d := .int _) rfl w.2⟩
  · exact w.elim
/-! ### sum, any, all of a list -/
def W.sum (ds : List D) (k : D → Prop) : Prop := ∃ ns : List Int, ds = [.lst (ns.map D.int)] ∧ k (.int ns.sum)
theorem l_sum : LiftL K (rSum K) W.sum := fun N H ds vs k Q hN p w z => by
  obtain ⟨ns, rfl, q⟩ := w
  obtain ⟨v, rfl, h⟩ := p.one
  obtain ⟨a, vs, rfl, h1, h2⟩ := h.lst
  rw [repL_ints h2] at h1
  exact ⟨a, ns, rfl, h1, z.here (d := .int _) rfl q⟩
def W.any (ds : List D) (k : D → Prop) : Prop := ∃ bs : List Bool, ds = [.lst (bs.map D.bl)] ∧ k (.bl (bs.any id))
theorem l_any : LiftL K (rAny K) W.any := fun N H ds vs k Q hN p w z => by
  obtain ⟨ns, rfl, q⟩ := w
  obtain ⟨v, rfl, h⟩ := p.one
  obtain ⟨a, vs, rfl, h1, h2⟩ := h.lst
  rw [repL_bls h2] at h1
  exact ⟨a, ns, rfl, h1, z.here (d := .bl _) rfl q⟩
def W.all (ds : List D) (k : D → Prop) : Prop := ∃ bs : List Bool, ds = [.lst (bs.map D.bl)] ∧ k (.bl (bs.all id))
theorem l_all : LiftL K (rAll K) W.all := fun N H ds vs k Q hN p w z => by
  obtain ⟨ns, rfl, q⟩ := w
  obtain ⟨v, rfl, h⟩ := p.one
  obtain ⟨a, vs, rfl, h1, h2⟩ := h.lst
  rw [repL_bls h2] at h1
  exact ⟨a, ns, rfl, h1, z.here (d := .bl _) rfl q⟩
/-! ### max, min of two -/
def W.max2 : List D → (D → Prop) → Prop
  | [.int i, .int j], k => k (.int (if j > i then j else i))
  | _, _ => False
theorem l_max2 : LiftL K (fun xs H Q => ∃ i j, xs = [V.int i, V.int j] ∧ Q (.int (if j > i then j else i)) H) W.max2 := fun N H ds vs k Q hN p w z => by
  unfold W.max2 at w
  split at w
  · obtain ⟨v, u, rfl, h1, h2⟩ := p.two
    obtain rfl := h1.int
    obtain rfl := h2.int
    exact ⟨_, _, rfl, z.here (d := .int _) rfl w⟩
  · exact w.elim
def W.min2 : List D → (D → Prop) → Prop
  | [.int i, .int j], k => k (.int (if j < i then j else i))
  | _, _ => False
theorem l_min2 : LiftL K (fun xs H Q => ∃ i j, xs = [V.int i, V.int j] ∧ Q (.int (if j < i then j else i)) H) W.min2 := fun N H ds vs k Q hN p w z => by
  unfold W.min2 at w
  split at w
  · obtain ⟨v, u, rfl, h1, h2⟩ := p.two
    obtain rfl := h1.int
    obtain rfl := h2.int
    exact ⟨_, _, rfl, z.here (d := .int _) rfl w⟩
  · exact w.elim
/-! ### list, tuple -/
def W.listOf : List D → (D → Prop) → Prop
  | [.lst xs], k => k (.lst xs)
  | [.tup xs], k => k (.lst xs)
  | _, _ => False
theorem l_listOf : LiftL K (fun xs H Q => ∃ p ys, xs = [.ref p] ∧ (SqL K H p ys ∨ SqT K H p ys) ∧ ∀ l, H l = none → Q (.ref l) (upd H l (.lst ys))) W.listOf := fun N H ds vs k Q hN p w z => by
  unfold W.listOf at w
  split at w
  · obtain ⟨v, rfl, h⟩ := p.one
    obtain ⟨a, vs, rfl, h1, h2⟩ := h.lst
    exact ⟨a, vs, rfl, .inl h1, fun l hl => z.newL hN hl h2 w⟩
  · obtain ⟨v, rfl, h⟩ := p.one
    obtain ⟨a, vs, rfl, h1, h2⟩ := h.tup
    exact ⟨a, vs, rfl, .inr h1, fun l hl => z.newL hN hl h2 w⟩
  · exact w.elim
def W.tupleOf : List D → (D → Prop) → Prop
  | [.lst xs], k => k (.tup xs)
  | [.tup xs], k => k (.tup xs)
  | _, _ => False
theorem l_tupleOf : LiftL K (fun xs H Q => ∃ p ys, xs = [.ref p] ∧ ((SqL K H p ys ∧ ∀ l, H l = none → Q (.ref l) (upd H l (.tup ys))) ∨ (SqT K H p ys ∧ Q (.ref p) H))) W.tupleOf := fun N H ds vs k Q hN p w z => by
  unfold W.tupleOf at w
  split at w
  · obtain ⟨v, rfl, h⟩ := p.one
    obtain ⟨a, vs, rfl, h1, h2⟩ := h.lst
    exact ⟨a, vs, rfl, .inl ⟨h1, fun l hl => z.newT hN hl h2 w⟩⟩
  · obtain ⟨v, rfl, h⟩ := p.one
    have hr := h.rep fun _ e => nomatch e
    obtain ⟨a, vs, rfl, h1, h2⟩ := h.tup
    exact ⟨a, vs, rfl, .inr ⟨h1, z.here hr w⟩⟩
  · exact w.elim
/-! ### int, bool -/
def W.int1 : List D → (D → Prop) → Prop
  | [.int i], k => k (.int i)
  | [.bl b], k => k (.int (if b then 1 else 0))
  | _, _ => False
theorem l_int1 : LiftL K (fun xs H Q => (∃ i, xs = [V.int i] ∧ Q (.int i) H) ∨ ∃ k, xs = [V.bl k] ∧ Q (.int (if k then 1 else 0)) H) W.int1 := fun N H ds vs k Q hN p w z => by
  unfold W.int1 at w
  split at w
  · obtain ⟨v, rfl, h⟩ := p.one
    obtain rfl := h.int
    exact .inl ⟨_, rfl, z.here (d := .int _) rfl w⟩
  · obtain ⟨v, rfl, h⟩ := p.one
    obtain rfl := h.bl
    exact .inr ⟨_, rfl, z.here (d := .int _) rfl w⟩
  · exact w.elim
/-- bool of a list or a tuple -/
def W.boolL : List D → (D → Prop) → Prop
  | [.lst xs], k => k (.bl (!xs.isEmpty))
  | _, _ => False
/-! ### sorted -/
def W.sortI (ds : List D) (k : D → Prop) : Prop := ∃ ns : List Int, ds = [.lst (ns.map D.int)] ∧ ∀ ms : List Int, ms.Perm ns → ms.Pairwise (· ≤ ·) → k (.lst (ms.map D.int))
def W.sortS (ds : List D) (k : D → Prop) : Prop := ∃ ns : List Str, ds = [.lst (ns.map D.str)] ∧ ns.length < 64 ∧ ∀ ms : List Str, ms.Perm ns → sortedS ms = true → k (.lst (ms.map D.str))
def rSortedW (K : PySem.W.Frag) : List V → Hp → VK → Prop := fun xs H Q => rSortedI K xs H Q ∨ rSortedS K xs H Q
theorem cr_sortedW : CallR X (.builtin "sorted") (rSortedW X.K) := CallR.or cr_sortedI cr_sortedS
def W.sorted (ds : List D) (k : D → Prop) : Prop := W.sortI ds k ∨ W.sortS ds k
theorem l_sorted : LiftL K (rSortedW K) W.sorted := fun N H ds vs k Q hN p w z => by
  rcases w with ⟨ns, rfl, q⟩ | ⟨ns, rfl, hl, q⟩
  · obtain ⟨v, rfl, h⟩ := p.one
    obtain ⟨a, vs, rfl, h1, h2⟩ := h.lst
    rw [repL_ints h2] at h1
    exact .inl ⟨a, ns, rfl, h1, fun ms p m1 m2 hp => z.newL hN hp (repL_of_ints ms) (q ms m1 m2)⟩
  · obtain ⟨v, rfl, h⟩ := p.one
    obtain ⟨a, vs, rfl, h1, h2⟩ := h.lst
    rw [repL_strs h2] at h1
    exact .inr ⟨a, ns, rfl, h1, hl, fun ms p m1 m2 hp => z.newL hN hp (repL_of_strs ms) (q ms m1 m2)⟩
/-! ### repr -/
def W.repr (ds : List D) (k : D → Prop) : Prop := ∃ x, ds = [x] ∧ (∃ n B, D.ok n B x ∧ n ≤ 60 ∧ B ≤ sizeLine) ∧ k (.str x.shown)
theorem l_repr : LiftL K (rReprD K) W.repr := fun N H ds vs k Q hN p w z => by
  obtain ⟨x, rfl, ⟨n, B, hk, hn, hB⟩, q⟩ := w
  obtain ⟨v, rfl, h⟩ := p.one
  have hs := py_show x hk.1
  exact ⟨v, x.py, rfl, dpS_of hk.1 h, hs.1, PyData.hasDict_of_canLay _ hs.2, Nat.le_trans hk.2.1 hn, Nat.le_trans hk.2.2 hB, z.here (d := .str x.shown) rfl q⟩
/-! ### texts: join, split -/
def W.join1 (x : D) (ds : List D) (k : D → Prop) : Prop := ∃ (s : Str) (ss : List Str) (y : D), x = .str s ∧ ds = [y] ∧ (y = .lst (ss.map D.str) ∨ y = .tup (ss.map D.str)) ∧ (ss.map (·.length)).sum + ss.length * s.length ≤ 16777216 ∧ k (.str (Txt.join s ss))
theorem l_join : LiftM K (fun x xs H Q => ∃ a p, ∃ ys : List Str, x = .str a ∧ xs = [.ref p] ∧ (SqL K H p (ys.map V.str) ∨ SqT K H p (ys.map V.str)) ∧ (ys.map (·.length)).sum + ys.length * a.length ≤ 16777216 ∧ Q (.str (Txt.join a ys)) H) W.join1 := fun N H x v ds vs k Q hN px p w z => by
  obtain ⟨s, ss, y, rfl, rfl, hy, hz, q⟩ := w
  obtain ⟨u, rfl, h⟩ := p.one
  obtain ⟨a, vs, rfl, h1, h2⟩ := h.seq hy
  rw [repL_strs h2] at h1
  exact ⟨s, a, ss, px.str, rfl, h1, hz, z.here (d := .str _) rfl q⟩
def W.split1 (x : D) (ds : List D) (k : D → Prop) : Prop := ∃ s t : Str, x = .str s ∧ ds = [.str t] ∧ (t.length == 0) = false ∧ s.length + 2 ≤ sizeLine ∧ k (.lst ((Txt.split s t).map D.str))
theorem l_split : LiftM K (fun x xs H Q => ∃ a b, x = .str a ∧ xs = [.str b] ∧ (b.length == 0) = false ∧ a.length + 2 ≤ sizeLine ∧ rNewStrs (Txt.split a b) H Q) W.split1 := fun N H x v ds vs k Q hN px p w z => by
  obtain ⟨s, t, rfl, rfl, h1, h2, q⟩ := w
  obtain ⟨u, rfl, h⟩ := p.one
  exact ⟨s, t, px.str, by rw [h.str], h1, h2, fun p hp => z.newL hN hp (repL_of_strs _) q⟩
end
section
variable {M : Md} {O : List Addr} {r : List Sl} {σ : L2.St} {H : Hp} {k : D → Prop} {te ta tb : TE} {tl : TA} {E : Kn}
theorem e_rev (h : Dv M te O r fun x => W.rev x k) : De M (tRevL M.K te) O r k := fun σ H Q R z => h σ H _ R fun v H1 x R1 e1 p1 w => by
  cases x <;> first
    | exact (show False from w).elim
    | skip
  obtain ⟨a, vs, rfl, h1, h2⟩ := p1.s.lst
  exact ⟨a, vs, rfl, h1, fun p hp => (post_of R1 e1 z).newL (nf_tr R1) hp h2.reverse w⟩
def W.truth : D → (Bool → Prop) → Prop
  | .bl b, k => k b
  | _, _ => False
theorem t_test {kt : Bool → Prop} (h : De M te O r fun x => W.truth x kt) : DT M (tTest te) O r kt := dt_test (h.imp fun x w => by
  cases x <;> first
    | exact (show False from w).elim
    | exact ⟨_, rfl, w⟩)
theorem t_B {kt : Bool → Prop} (h : De M te O r fun x => W.truth x kt) : DT M (tB te) O r kt := dt_B (h.imp fun x w => by
  cases x <;> first
    | exact (show False from w).elim
    | exact ⟨_, rfl, w⟩)
theorem t_and {kt : Bool → Prop} {tt tu : TT} (h : DT M tt O r fun b => W.ite b (DT M tu O r kt) (kt false)) : DT M (tAnd tt tu) O r kt := dt_and (h.imp fun b w => ite_split w id id)
theorem t_or {kt : Bool → Prop} {tt tu : TT} (h : DT M tt O r fun b => W.ite b (kt true) (DT M tu O r kt)) : DT M (tOr tt tu) O r kt := dt_or (h.imp fun b w => ite_split w id id)
theorem e_if {tt : TT} (h : DT M tt O r fun b => W.ite b (De M ta O r k) (De M tb O r k)) : De M (tIf tt ta tb) O r k := de_if (h.imp fun b w => ite_split w id id)
theorem e_notV (h : De M te O r fun x => W.truth x fun b => k (.bl (!b))) : De M (tNotV te) O r k := de_notV (h.imp fun x w => by
  cases x <;> first
    | exact (show False from w).elim
    | exact ⟨_, rfl, w⟩)
theorem e_andV (h : De M ta O r fun x => W.truth x fun b => W.ite b (De M tb O r k) (k (.bl false))) : De M (tAndV ta tb) O r k := de_andV (h.imp fun x w => by
  cases x <;> first
    | exact (show False from w).elim
    | exact ⟨_, rfl, ite_split w id id⟩)
theorem e_orV (h : De M ta O r fun x => W.truth x fun b => W.ite b (k (.bl true)) (De M tb O r k)) : De M (tOrV ta tb) O r k := de_orV (h.imp fun x w => by
  cases x <;> first
    | exact (show False from w).elim
    | exact ⟨_, rfl, ite_split w id id⟩)
theorem W.ite.imp {b : Bool} {p q p' q' : Prop} (h : W.ite b p q) (f : p → p') (g : q → q') : W.ite b p' q' := ⟨fun e => f (h.1 e), fun e => g (h.2 e)⟩
def W.part : D → (Option Int → Prop) → Prop
  | .int i, k => k (some i)
  | _, _ => False
theorem o_some {k : Option Int → Prop} (h : De M te O r fun x => W.part x k) : DO M (tPart te) O r k := do_some (h.imp fun x w => by
  cases x <;> first
    | exact (show False from w).elim
    | exact ⟨_, rfl, w⟩)
theorem DO.imp {to : TO} {k k' : Option Int → Prop} (h : DO M to O r k) (i : ∀ o, k o → k' o) : DO M to O r k' := fun σ H Q R z => h σ H Q R fun o H1 R1 e1 q => z o H1 R1 e1 (i o q)
theorem e_lst (h : DA M tl O r fun ds => ds.length ≤ sizeLine ∧ k (.lst ds)) : De M (tLst tl) O r k := de_lst h
theorem e_tup (h : DA M tl O r fun ds => ds.length ≤ sizeLine ∧ k (.tup ds)) : De M (tTup tl) O r k := de_tup h
/-! ### an own list -/
theorem s_append {i : Nat} {p : Addr} {xs : List D} {ts : TS} (h : r[i]? = some (.mu p xs)) (q : De M te O r fun d => xs.length < sizeLine ∧ DS M ts O (r.set i (.mu p (xs ++ [d]))) E) :
    DS M (tSeq (tDrop (tBM M.K "list" rAppend (tVar i) (tCons te tNil))) ts) O r E := ds_seq fun σ H Z R z => by
  obtain ⟨e1, hp, vs, h1, h2⟩ := R.slot i _ h
  refine ⟨.ref p, e1, .inl ⟨rfl, vs, .inl (.inl h1)⟩, ?_⟩
  refine q σ H _ R fun v H1 d R1 e2 p1 ⟨hz, q1⟩ => ?_
  obtain ⟨_, _, vs', h1', h2'⟩ := R1.slot i _ h
  refine ⟨p, vs', v, rfl, rfl, h1', by rw [← h2'.length]; exact hz, ?_⟩
  exact z.nx O _ σ _ (R1.write h (h2'.append (.one p1))) (stp_write R1 h e2) q1
theorem s_own {i : Nat} {ts : TS} (h : DA M tl O r fun ds => ds.length ≤ sizeLine ∧ ∀ p, p ∉ O → DS M ts (p :: O) (r.set i (.mu p ds)) E) : DS M (tSeq (tAsg (tLst tl) (gName i)) ts) O r E := ds_seq (ds_own h)
theorem s_asg {i : Nat} {ts : TS} (h : De M te O r fun d => DS M ts O (r.set i (.d d)) E) : DS M (tSeq (tAsg te (gName i)) ts) O r E := ds_seq (ds_asg h)
theorem s_ret (h : De M te O r E.rt) : DS M (tRet te) O r E := ds_ret h
theorem s_aug {i : Nat} {d0 : D} {f : Int → Int → Int} {ts : TS} (hi : r[i]? = some (.d d0)) (h : De M te O r fun y => W.ii (fun _ _ => True) (fun a b => .int (f a b)) d0 y fun z => DS M ts O (r.set i (.d z)) E) : DS M (tSeq (tAug i te (ipI f)) ts) O r E := ds_seq fun σ H Z R z => by
  obtain ⟨u, e, h1⟩ := R.slot i _ hi
  refine ⟨u, e, h σ H _ R fun v H1 y R1 e1 p1 ⟨a, b, ea, eb, _, q⟩ => ?_⟩
  subst ea eb
  obtain rfl : u = .int a := h1
  obtain rfl : v = .int b := p1
  exact ⟨a, b, rfl, rfl, z.nx O _ _ H1 (R1.set (s := .d (.int (f a b))) ⟨_, rfl, rfl⟩ (fun p xs e => nomatch e)) (R1.stp e1) q⟩
/-- name = an own list's top, taken off; as the rest of a list that is put on another -/
theorem s_freeze (i : Nat) {p : Addr} {xs : List D} {ts : TS} (h : r[i]? = some (.mu p xs)) (q : DS M ts (O.erase p) (r.set i (.d (.lst xs))) E) : DS M ts O r E := ds_freeze i h q
/-! ### rows of values, some of them lists of one's own -/
def SlsR (M : Md) (O : List Addr) (H : Hp) : List Sl → List V → Prop
  | [], vs => vs = []
  | s :: ss, vs => ∃ v r, vs = v :: r ∧ SlR M O H (some (some v)) s ∧ SlsR M O H ss r
end
end Dw

/-! Wp5: several names at once, lists of one's own among them; draws. -/
namespace Dw
open PySem PySem.Spec PyProof.Rows L2
theorem ds_last {M : Md} {O : List Addr} {r : List Sl} {ts : TS} {E : Kn} (h : DS M (tSeq ts tNext) O r E) : DS M ts O r E := h
def muA : List Sl → List Addr
  | [] => []
  | .mu p _ :: ss => p :: muA ss
  | .un :: ss => muA ss
  | .d _ :: ss => muA ss
/-- a row of values, some of them new lists of one's own -/
def Do (M : Md) (ta : TA) (O : List Addr) (r : List Sl) (k : List Addr → List Sl → Prop) : Prop :=
  ∀ σ H (Q : List V → Hp → Prop), Rp M O r σ H → (∀ vs H' O' ss, Rp M O' r σ H' → Sm M.F0 H H' → (∀ p ∈ O', p ∈ O ∨ H p = none) → (∀ p ∈ O, p ∈ O') → SlsR M O' H' ss vs → (muA ss).Nodup → (∀ p ∈ muA ss, p ∈ O' ∧ p ∉ O) → k O' ss → Q vs H') → ta σ H Q
theorem SlR.up {M : Md} {O O' : List Addr} {H H' : Hp} {v : V} {s : Sl} (e : Sm M.F0 H H') (h1 : ∀ p ∈ O', p ∈ O ∨ H p = none) (h2 : ∀ p ∈ O, p ∈ O') (nf0 : ∀ p ∈ O, ¬ M.F0 p) (h : SlR M O H (some (some v)) s) : SlR M O' H' (some (some v)) s := by
  have g : ∀ a, nf M O' a → nf M O a ∨ H a = none := fun a ha => ha.elim (fun z => .inl (.inl z)) fun z => (h1 a z).imp .inr id
  have w : ∀ a, M.F0 a → nf M O' a := fun a z => .inl (M.f0 a z)
  cases s with
  | un => trivial
  | d x =>
    obtain ⟨u, e1, q⟩ := h
    exact ⟨u, e1, (q.gen g).mono (e.wide w)⟩
  | mu p xs =>
    obtain ⟨e1, hp, vs, q1, q2⟩ := h
    exact ⟨e1, h2 p hp, vs, e p _ (nf0 p hp) q1, (q2.gen g).mono (e.wide w)⟩
theorem Rp.nF {M : Md} {O : List Addr} {r : List Sl} {σ : L2.St} {H : Hp} (R : Rp M O r σ H) : ∀ p ∈ O, ¬ M.F0 p := fun p hp z => M.tr p (M.f0 p z) (R.own p hp).1
section
variable {M : Md} {O : List Addr} {r : List Sl} {k : List Addr → List Sl → Prop} {te : TE} {ta tl : TA} {E : Kn}
theorem do_nil (h : k O []) : Do M tNil O r k := fun σ H Q R z => z [] H O [] R .refl (fun _ h => .inl h) (fun _ h => h) rfl List.nodup_nil (fun _ h => nomatch h) h
theorem do_d (h : De M te O r fun d => Do M tl O r fun O' ss => k O' (.d d :: ss)) : Do M (tCons te tl) O r k := fun σ H Q R z => by
  refine h σ H _ R fun v H1 d R1 e1 p1 h1 => h1 σ H1 _ R1 fun vs H2 O2 ss R2 e2 a1 a2 b n n2 q => ?_
  refine z (v :: vs) H2 O2 (.d d :: ss) R2 (e1.trans e2) (fun p hp => ?_) a2 ⟨v, vs, rfl, SlR.up (s := .d d) e2 a1 a2 R1.nF ⟨v, rfl, p1⟩, b⟩ n n2 q
  rcases a1 p hp with y | y
  · exact .inl y
  · right
    cases eh : H p with
    | none => rfl
    | some o =>
      by_cases f : M.F0 p
      · exact absurd y (M.tk H1 p R1.inv f)
      · rw [e1 p o f eh] at y
        cases y
theorem do_new {xs : List D} {vs0 : List V} {p : Addr} {σ : L2.St} {H H1 : Hp} {Q : List V → Hp → Prop} (R : Rp M O r σ H) (R1 : Rp M O r σ H1) (e1 : Sm M.F0 H H1) (hp : H1 p = none) (h2 : RepL M.K (nf M O) H1 xs vs0)
    (z : ∀ vs H' O' ss, Rp M O' r σ H' → Sm M.F0 H H' → (∀ p ∈ O', p ∈ O ∨ H p = none) → (∀ p ∈ O, p ∈ O') → SlsR M O' H' ss vs → (muA ss).Nodup → (∀ p ∈ muA ss, p ∈ O' ∧ p ∉ O) → k O' ss → Q vs H')
    (q : Do M tl (p :: O) r fun O' ss => k O' (.mu p xs :: ss)) : tl σ (upd H1 p (.lst vs0)) fun vs H2 => Q (.ref p :: vs) H2 := by
  have pO : p ∉ O := fun y => (R1.own p y).2 hp
  have Ra := R1.own1 (o := .lst vs0) hp
  refine q σ _ _ Ra fun vs H2 O2 ss R2 e2 a1 a2 b n n2 q => ?_
  have h0 : H p = none := by
    cases eh : H p with
    | none => rfl
    | some o =>
      by_cases f : M.F0 p
      · exact absurd hp (M.tk H1 p R1.inv f)
      · rw [e1 p o f eh] at hp
        cases hp
  have up : ∀ a, (upd H1 p (.lst vs0)) a = none → H a = none := fun a ha => by
    by_cases y : a = p
    · rw [y]
      exact h0
    · rw [upd_ne y] at ha
      cases eh : H a with
      | none => rfl
      | some o =>
        by_cases f : M.F0 a
        · exact absurd ha (M.tk H1 a R1.inv f)
        · rw [e1 a o f eh] at ha
          cases ha
  refine z (.ref p :: vs) H2 O2 (.mu p xs :: ss) R2 ((e1.trans (sm_0 (sm_new hp))).trans e2) (fun a ha => ?_) (fun a ha => a2 a (List.mem_cons_of_mem _ ha)) ⟨.ref p, vs, rfl, SlR.up (s := .mu p xs) e2 a1 a2 Ra.nF ⟨rfl, List.mem_cons_self, vs0, upd_same, h2.own1 hp⟩, b⟩ (List.nodup_cons.mpr ⟨fun y => ?_, n⟩) (fun a ha => ?_) q
  · rcases a1 a ha with y | y
    · rcases List.mem_cons.mp y with rfl | y
      · exact .inr h0
      · exact .inl y
    · exact .inr (up a y)
  · exact (n2 p y).2 List.mem_cons_self
  · rcases List.mem_cons.mp (show a ∈ p :: muA ss from ha) with rfl | y
    · exact ⟨a2 a List.mem_cons_self, pO⟩
    · exact ⟨(n2 a y).1, fun w => (n2 a y).2 (List.mem_cons_of_mem _ w)⟩
theorem do_l (h : DA M ta O r fun ds => ds.length ≤ sizeLine ∧ ∀ p, p ∉ O → Do M tl (p :: O) r fun O' ss => k O' (.mu p ds :: ss)) : Do M (tCons (tLst ta) tl) O r k := fun σ H Q R z => by
  refine h σ H _ R fun vs0 H1 ds R1 e1 p1 ⟨hz, h1⟩ => ⟨by rw [← p1.length]; exact hz, fun p hp => ?_⟩
  exact do_new R R1 e1 hp p1 z (h1 p fun y => (R1.own p y).2 hp)
theorem do_lo (h : Dv M te O r fun x => ∃ xs, (x = .lst xs ∨ x = .tup xs) ∧ ∀ p, p ∉ O → Do M tl (p :: O) r fun O' ss => k O' (.mu p xs :: ss)) : Do M (tCons (tListOf M.K te) tl) O r k := fun σ H Q R z => by
  refine h σ H _ R fun v H1 x R1 e1 p1 ⟨xs, hx, h1⟩ => ?_
  obtain ⟨a, vs, rfl, sq, h2⟩ := p1.s.seq hx
  exact ⟨a, vs, rfl, sq, fun p hp => do_new R R1 e1 hp h2 z (h1 p fun y => (R1.own p y).2 hp)⟩
def setAll (r : List Sl) : List Nat → List Sl → List Sl
  | i :: is, s :: ss => setAll (r.set i s) is ss
  | _, _ => r
theorem noMu.setD {r : List Sl} {p : Addr} {i : Nat} {s : Sl} (h : noMu r p) (n : ∀ xs, s ≠ .mu p xs) : noMu (r.set i s) p := fun j ys hj => by
  by_cases e : i = j
  · subst e
    by_cases hi : i < r.length
    · rw [List.getElem?_set_self hi] at hj
      exact n ys (Option.some.inj hj)
    · rw [List.getElem?_eq_none (by rw [List.length_set]; omega)] at hj
      cases hj
  · rw [List.getElem?_set_ne e] at hj
    exact h j ys hj
/-- the slots hold the row -/
def stAll (σ : L2.St) : List Nat → List V → L2.St
  | i :: is, v :: vs => stAll (σ.set i (some v)) is vs
  | _, _ => σ
theorem rp_all {O : List Addr} {H : Hp} : ∀ (is : List Nat) (ss : List Sl) (vs : List V) (r : List Sl) (σ : L2.St), Rp M O r σ H → SlsR M O H ss vs → (muA ss).Nodup → (∀ p ∈ muA ss, noMu r p) → Rp M O (setAll r is ss) (stAll σ is vs) H
  | [], ss, vs, r, σ, R, _, _, _ => by
    cases ss <;> cases vs <;> exact R
  | i :: is, [], vs, r, σ, R, h, _, _ => by
    obtain rfl := (show vs = [] from h)
    exact R
  | i :: is, s :: ss, vs, r, σ, R, h, n, n2 => by
    obtain ⟨v, t, rfl, h1, h2⟩ := h
    show Rp M O (setAll (r.set i s) is ss) (stAll (σ.set i (some v)) is t) H
    refine rp_all is ss t _ _ (R.set h1 fun p xs e j ys _ hy => ?_) h2 ?_ fun p hp => ?_
    · subst e
      exact n2 p List.mem_cons_self j ys hy
    · cases s with
      | mu p xs => exact (List.nodup_cons.mp n).2
      | un => exact n
      | d x => exact n
    · cases s with
      | mu q xs =>
        refine (n2 p (List.mem_cons_of_mem _ hp)).setD fun ys e => ?_
        cases e
        exact (List.nodup_cons.mp n).1 hp
      | un => exact (n2 p hp).setD fun ys e => nomatch e
      | d x => exact (n2 p hp).setD fun ys e => nomatch e
theorem do_stp {σ : L2.St} {H H' : Hp} {O' : List Addr} (R : Rp M O' r σ H') (e : Sm M.F0 H H') (h1 : ∀ p ∈ O', p ∈ O ∨ H p = none) : Stp M O H O' H' := ⟨sm_st e, h1, fun a h => by
  by_cases f : M.F0 a
  · exact M.tk H' a R.inv f
  · cases eh : H a with
    | none => exact absurd eh h
    | some o =>
      rw [e a o f eh]
      exact fun z => nomatch z⟩
theorem s_par {i j : Nat} {ts : TS} (h : Do M ta O r fun O' ss => ss.length = 2 ∧ DS M ts O' (setAll r [i, j] ss) E) : DS M (tSeq (tPar i j ta) ts) O r E := ds_seq fun σ H Z R z => by
  refine h σ H _ R fun vs H1 O1 ss R1 e1 a1 a2 b n n2 ⟨hl, q⟩ => ?_
  match ss, hl with
  | [s1, s2], _ =>
    obtain ⟨v, t, rfl, b1, b2⟩ := id b
    obtain ⟨u, t2, rfl, b3, b4⟩ := b2
    obtain rfl := (show t2 = [] from b4)
    exact ⟨v, u, rfl, z.nx O1 _ _ H1 (rp_all [i, j] [s1, s2] [v, u] r σ R1 b n fun p hp => noMu.out R fun w => (n2 p hp).2 w) (do_stp R1 e1 a1) q⟩
def gNs : List Nat → TGs
  | [] => gNil
  | i :: is => gCons (gName i) (gNs is)
theorem gNs_run : ∀ (is : List Nat) (vs : List V) (σ : L2.St) (H : Hp) (Q : L2.St → Hp → Prop), is.length = vs.length → Q (stAll σ is vs) H → gNs is vs σ H Q
  | [], [], σ, H, Q, _, q => ⟨rfl, q⟩
  | i :: is, v :: vs, σ, H, Q, hl, q => ⟨v, vs, rfl, gNs_run is vs _ H Q (by simpa using hl) q⟩
theorem SlsR.len {M : Md} {O : List Addr} {H : Hp} : ∀ {ss : List Sl} {vs : List V}, SlsR M O H ss vs → ss.length = vs.length
  | [], _, h => by
    obtain rfl := (show _ = [] from h)
    rfl
  | s :: ss, _, ⟨v, r, e, _, h⟩ => by
    subst e
    rw [List.length_cons, List.length_cons, SlsR.len h]
theorem SlsR.grow {M : Md} {O : List Addr} {H H' : Hp} (e : Sm M.F0 H H') (nF : ∀ p ∈ O, ¬ M.F0 p) : ∀ {ss : List Sl} {vs : List V}, SlsR M O H ss vs → SlsR M O H' ss vs
  | [], _, h => h
  | s :: ss, _, ⟨v, r, e1, h1, h2⟩ => ⟨v, r, e1, h1.up e (fun _ h => .inl h) (fun _ h => h) nF, SlsR.grow e nF h2⟩
/-- a, b, .. = e, f, .. by way of a tuple -/
theorem s_tup (is : List Nat) {n : Nat} {ts : TS} (hn : is.length = n) (hs : n ≤ 60) (h : Do M ta O r fun O' ss => ss.length = is.length ∧ DS M ts O' (setAll r is ss) E) : DS M (tSeq (tAsg (tTup ta) (gTup M.K n (gNs is))) ts) O r E := ds_seq fun σ H Z R z => by
  refine h σ H _ R fun vs H1 O1 ss R1 e1 a1 a2 b nn n2 ⟨hl, q⟩ => ?_
  have lv := b.len
  refine ⟨Nat.le_trans (by omega : vs.length ≤ 60) (by decide), fun t ht => ?_⟩
  have R2 := R1.grow (sm_new (o := .tup vs) ht)
  refine ⟨t, vs, rfl, .inl (.inl upd_same), by omega, gNs_run is vs σ _ _ (by omega) ?_⟩
  exact z.nx O1 _ _ _ (rp_all is ss vs r σ R2 (b.grow (sm_0 (sm_new ht)) R1.nF) nn fun p hp => noMu.out R fun w => (n2 p hp).2 w) (do_stp R2 (e1.trans (sm_0 (sm_new ht))) a1) q
theorem s_freezeH (i : Nat) {p : Addr} {xs : List D} {ts : TS} (h : r[i]? = some (.mu p xs)) (q : DS M ts O (r.set i (.d (.lst xs))) E) : DS M ts (p :: O) r E := ds_freeze i h (by
  have e : (p :: O).erase p = O := List.erase_cons_head p O
  rw [e]
  exact q)
theorem s_appendPop {i j : Nat} {p q : Addr} {xs ys : List D} {ts : TS} (hi : r[i]? = some (.mu p xs)) (hj : r[j]? = some (.mu q ys)) (hij : i ≠ j)
    (h : De M te O r fun d => ys.length < sizeLine ∧ ∃ n : Nat, d = .int n ∧ n < xs.length ∧ xs.length ≤ 1000000 ∧ ∀ x, xs[n]? = some x → DS M ts O ((r.set i (.mu p (xs.eraseIdx n))).set j (.mu q (ys ++ [x]))) E) :
    DS M (tSeq (tDrop (tBM M.K "list" rAppend (tVar j) (tCons (tBM M.K "list" rPopAt (tVar i) (tCons te tNil)) tNil))) ts) O r E := by
  by_cases hz : ys.length < sizeLine
  · exact ds_seq (ds_appendPop hi hj hij hz (h.imp fun d hd => hd.2))
  · refine ds_seq fun σ H Z R z => ?_
    obtain ⟨e1, hp, vs, h1, h2⟩ := R.slot i _ hi
    obtain ⟨f1, hq, ws, g1, g2⟩ := R.slot j _ hj
    refine ⟨.ref q, f1, .inl ⟨rfl, ws, .inl (.inl g1)⟩, .ref p, e1, .inl ⟨rfl, vs, .inl (.inl h1)⟩, ?_⟩
    exact h σ H _ R fun v H1 d R1 e2 p1 ⟨hz2, _⟩ => (hz hz2).elim
/-- the top of an own list -/
def W.top (xs : List D) (k : D → List D → Prop) : Prop := ∃ ys x, xs = ys ++ [x] ∧ k x ys
theorem s_appendTop {i j : Nat} {p q : Addr} {xs ys : List D} {c : Str} {ts : TS} (hi : r[i]? = some (.mu p xs)) (hj : r[j]? = some (.mu q ys)) (hij : i ≠ j)
    (h : W.top xs fun x zs => ys.length < sizeLine ∧ DS M ts O ((r.set i (.mu p zs)).set j (.mu q (ys ++ [.tup [.str c, x]]))) E) :
    DS M (tSeq (tDrop (tBM M.K "list" rAppend (tVar j) (tCons (tTup (tCons (tC (.str c)) (tCons (tBM0 M.K "list" rPop (tVar i)) tNil))) tNil))) ts) O r E := by
  obtain ⟨zs, x, rfl, hz, q⟩ := h
  exact ds_seq (ds_appendTop hi hj hij hz q)
end
/-! ### draws -/
def W.draw : D → (D → Prop) → Prop
  | .int n, k => (0 < n ∧ n < 1073741824) ∧ ∀ m : Int, 0 ≤ m → m < n → k (.int m)
  | _, _ => False
theorem draw_w {K : PySem.W.Frag} {vs : List V} {H : Hp} {Q : VK} {E : XK} (h : SpDl K (W.a1 W.draw) vs H Q E) : spDraw K vs H Q E := by
  obtain ⟨g, ds, F, k, p, f0, tr, i, ⟨r, rfl, w⟩, z⟩ := h
  obtain ⟨a, rfl, w⟩ := a1_e w
  obtain ⟨n, rfl⟩ : ∃ n, a = .int n := by
    cases a <;> first
      | exact (show False from w).elim
      | exact ⟨_, rfl⟩
  exact ⟨g, _, F, p, f0, tr, i, ⟨n, rfl, w.1.1, w.1.2⟩, fun v H' d s i' po ⟨n2, m, e1, e2, m0, m1⟩ => by
    cases e1
    subst e2
    exact z v H' (.int m) s i' po (w.2 m m0 m1)⟩
end Dw
namespace Dw
open PySem PySem.Spec PyProof.Rows L2
theorem lenLe {ds : List D} (n : Nat) (h : n ≤ sizeLine) (e : ds.length = n := by rfl) : ds.length ≤ sizeLine := by rw [e]; exact h
theorem _root_.L2.Room.units65 {k : Nat} {A : Around} (r : L2.Room k A) : A.units + 65 < cLine := by have := r.un; omega
theorem truth_imp {x : D} {k k' : Bool → Prop} (h : W.truth x k) (i : ∀ b, k b → k' b) : W.truth x k' := by
  cases x <;> first
    | exact (show False from h).elim
    | exact i _ h
theorem ii_imp {C : Int → Int → Prop} {g : Int → Int → D} {x y : D} {k k' : D → Prop} (h : W.ii C g x y k) (i : ∀ d, k d → k' d) : W.ii C g x y k' := by
  obtain ⟨a, b, ea, eb, c, q⟩ := h
  exact ⟨a, b, ea, eb, c, i _ q⟩
theorem top_imp {xs : List D} {k k' : D → List D → Prop} (h : W.top xs k) (i : ∀ x ys, k x ys → k' x ys) : W.top xs k' := by
  obtain ⟨ys, x, e, q⟩ := h
  exact ⟨ys, x, e, i _ _ q⟩
theorem pop_imp {A : Prop} {d : D} {xs : List D} {k k' : Nat → D → Prop} (h : A ∧ ∃ n : Nat, d = .int n ∧ n < xs.length ∧ xs.length ≤ 1000000 ∧ ∀ x, xs[n]? = some x → k n x) (i : ∀ n x, k n x → k' n x) :
    A ∧ ∃ n : Nat, d = .int n ∧ n < xs.length ∧ xs.length ≤ 1000000 ∧ ∀ x, xs[n]? = some x → k' n x := by
  obtain ⟨a, n, h1, h2, h3, q⟩ := h
  exact ⟨a, n, h1, h2, h3, fun x hx => i n x (q x hx)⟩
theorem seq_own {x : D} {k : List D → Prop} {k' : List D → Prop} (h : W.seq x k) (i : ∀ xs, k xs → k' xs) : ∃ xs, (x = .lst xs ∨ x = .tup xs) ∧ k' xs := by
  obtain ⟨xs, e, q⟩ := seq_e h
  exact ⟨xs, e, i _ q⟩
section
variable {M : Md} {O : List Addr} {r : List Sl} {te : TE} {ts : TS} {E : Kn}
theorem s_un2 {i j : Nat} {f : D → D → Prop} (h : De M te O r fun d => W.un2 d f) (q : ∀ a b, f a b → DS M ts O ((r.set i (.d a)).set j (.d b)) E) : DS M (tSeq (tAsg te (gTup M.K 2 (gCons (gName i) (gCons (gName j) gNil)))) ts) O r E :=
  ds_seq fun σ H Z R z => h σ H _ R fun v H1 d R1 e1 p1 w => (dg_un2 (i := i) (j := j) (k := fun r2 => DS M ts O r2 E) w q) v σ H1 _ R1 p1 fun σ' r' R' _ q' => z.nx O r' σ' H1 R' (R'.stp e1) q'
theorem s_un3 {i j l : Nat} {f : D → D → D → Prop} (h : De M te O r fun d => W.un3 d f) (q : ∀ a b c, f a b c → DS M ts O (((r.set i (.d a)).set j (.d b)).set l (.d c)) E) : DS M (tSeq (tAsg te (gTup M.K 3 (gCons (gName i) (gCons (gName j) (gCons (gName l) gNil))))) ts) O r E :=
  ds_seq fun σ H Z R z => h σ H _ R fun v H1 d R1 e1 p1 w => (dg_un3 (i := i) (j := j) (l := l) (k := fun r2 => DS M ts O r2 E) w q) v σ H1 _ R1 p1 fun σ' r' R' _ q' => z.nx O r' σ' H1 R' (R'.stp e1) q'
end
end Dw

/-! Wq: short ways to what is asked. -/
namespace Dw
open PySem PySem.Spec PyProof.Rows L2
theorem q_eqS {a b : Str} {k : D → Prop} (h : k (.bl (decide (a = b)))) : W.eq (.str a) (.str b) k := .inl ⟨_, _, rfl, rfl, rfl, by
  have e : decide (V.str a = V.str b) = decide (a = b) := decide_eq_decide.mpr ⟨fun z => V.str.inj z, fun z => by rw [z]⟩
  rw [e]
  exact h⟩
theorem q_eqI {a b : Int} {k : D → Prop} (h : k (.bl (decide (a = b)))) : W.eq (.int a) (.int b) k := .inl ⟨_, _, rfl, rfl, rfl, by
  have e : decide (V.int a = V.int b) = decide (a = b) := decide_eq_decide.mpr ⟨fun z => V.int.inj z, fun z => by rw [z]⟩
  rw [e]
  exact h⟩
theorem q_neS {a b : Str} {k : D → Prop} (h : k (.bl (!decide (a = b)))) : W.ne (.str a) (.str b) k := .inl ⟨_, _, rfl, rfl, rfl, by
  have e : decide (V.str a = V.str b) = decide (a = b) := decide_eq_decide.mpr ⟨fun z => V.str.inj z, fun z => by rw [z]⟩
  rw [e]
  exact h⟩
theorem q_neI {a b : Int} {k : D → Prop} (h : k (.bl (!decide (a = b)))) : W.ne (.int a) (.int b) k := .inl ⟨_, _, rfl, rfl, rfl, by
  have e : decide (V.int a = V.int b) = decide (a = b) := decide_eq_decide.mpr ⟨fun z => V.int.inj z, fun z => by rw [z]⟩
  rw [e]
  exact h⟩
theorem q_ii {g : Int → Int → D} {i j : Int} {k : D → Prop} (h : k (g i j)) : W.ii (fun _ _ => True) g (.int i) (.int j) k := ⟨i, j, rfl, rfl, trivial, h⟩
theorem q_iiC {C : Int → Int → Prop} {g : Int → Int → D} {i j : Int} {k : D → Prop} (c : C i j) (h : k (g i j)) : W.ii C g (.int i) (.int j) k := ⟨i, j, rfl, rfl, c, h⟩
theorem q_ixT {xs : List D} {i : Nat} {d : D} {k : D → Prop} (e : xs[i]? = some d) (h : k d) : W.ix (.tup xs) (.int (i : Int)) k := ⟨d, L2.atI_nat e, h⟩
theorem q_ixL {xs : List D} {i : Nat} {d : D} {k : D → Prop} (e : xs[i]? = some d) (h : k d) : W.ix (.lst xs) (.int (i : Int)) k := ⟨d, L2.atI_nat e, h⟩
theorem q_t {b : Bool} {k : Bool → Prop} (h : k b) : W.truth (.bl b) k := h
theorem q_ite {b : Bool} {p q : Prop} (h1 : b = true → p) (h2 : b = false → q) : W.ite b p q := ⟨h1, h2⟩
theorem q_dec {c : Prop} [Decidable c] {p q : Prop} (h1 : c → p) (h2 : ¬ c → q) : W.ite (decide c) p q := ⟨fun z => h1 (of_decide_eq_true z), fun z => h2 (of_decide_eq_false z)⟩
theorem q_decN {c : Prop} [Decidable c] {p q : Prop} (h1 : ¬ c → p) (h2 : c → q) : W.ite (!decide c) p q := ⟨fun z => h1 fun y => by simp [y] at z, fun z => h2 (by simpa using z)⟩
theorem q_T {p q : Prop} (h : p) : W.ite true p q := W.ite_t.mpr h
theorem q_F {p q : Prop} (h : q) : W.ite false p q := W.ite_f.mpr h
theorem q_join {α : Type} {m : (α → Prop) → Prop} {k : α → Prop} (h : m k) : W.join m k := h
/-- a loop, by an invariant over what is left -/
theorem q_forL {S : Type} {body : D → S → (S → Prop) → (S → Prop) → Prop} {p : S → Prop} (I : List D → S → Prop) (fin : ∀ s, I [] s → p s) (turn : ∀ x xs s, I (x :: xs) s → body x s (fun s' => I xs s') p) (mono : ∀ x s (n n' b : S → Prop), (∀ s, n s → n' s) → body x s n b → body x s n' b) :
    ∀ {xs : List D} {s : S}, I xs s → W.forL body xs s p
  | [], s, h => fin s h
  | x :: xs, s, h => mono x s _ _ _ (fun s' h' => q_forL I fin turn mono h') (turn x xs s h)
end Dw

namespace Dw
open PySem PySem.Spec PyProof.Rows L2
def p_depth_of (x0 : D) (kr : D → Prop) : Prop := W.seq x0 fun xs20 => W.forL (S := (D × D)) (fun y2 s3 n4 b5 => W.join (fun k6 : (D) → Prop => W.ix y2 (D.int 0) fun v18 => W.eq v18 (D.str "prop") fun v17 => W.truth v17 fun b16 => W.ite b16 (W.ii (fun _ _ => True) (fun a b => .int (a + b)) s3.1 (D.int 1) fun v8 => k6 v8) (k6 s3.1)) fun s7 => W.join (fun k9 : (D) → Prop => W.ix y2 (D.int 0) fun v15 => W.eq v15 (D.str "unprop") fun v14 => W.truth v14 fun b13 => W.ite b13 (W.ii (fun _ _ => True) (fun a b => .int (a - b)) s7 (D.int 1) fun v11 => k9 v11) (k9 s7)) fun s10 => W.max2 [s3.2, s10] fun v12 => n4 (s10, v12)) xs20 ((D.int 0), (D.int 0)) fun s19 => kr s19.2
def p_reverse_of (x0 : D) (kr : D → Prop) : Prop := W.seq x0 fun xs27 => W.forL (S := (List D × List D)) (fun y6 s7 n8 b9 => W.ix y6 (D.int 0) fun v23 => W.eq v23 (D.str "prop") fun v22 => W.truth v22 fun b21 => W.ite b21 (W.ix y6 (D.int 1) fun v10 => s7.1.length < sizeLine ∧ s7.2.length < sizeLine ∧ n8 ((s7.1 ++ [v10]), (s7.2 ++ [(D.tup [(D.str "unprop")])]))) (W.ix y6 (D.int 0) fun v20 => W.eq v20 (D.str "unprop") fun v19 => W.truth v19 fun b18 => W.ite b18 (W.top s7.1 fun x11 zs12 => s7.2.length < sizeLine ∧ n8 (zs12, (s7.2 ++ [.tup [.str "prop", x11]]))) (W.ix y6 (D.int 0) fun v17 => W.eq v17 (D.str "put") fun v16 => W.truth v16 fun b15 => W.ite b15 (W.ix y6 (D.int 1) fun v13 => s7.2.length < sizeLine ∧ n8 (s7.1, (s7.2 ++ [(D.tup [(D.str "take"), v13])]))) (W.ix y6 (D.int 1) fun v14 => s7.2.length < sizeLine ∧ n8 (s7.1, (s7.2 ++ [(D.tup [(D.str "put"), v14])])))))) xs27 ([], []) fun s24 => W.rev (D.lst s24.2) fun v26 => W.tupleOf [v26] fun v25 => kr v25
end Dw

/-! K28a: what depth_of and reverse_of ask of a whole script. -/
namespace Dw
open PySem PySem.Spec PyProof.Rows L2
def depthBody : D → D × D → (D × D → Prop) → (D × D → Prop) → Prop := fun y1 s2 n3 b4 => W.join (fun k5 : (D) → Prop => W.ix y1 (D.int 0) fun v17 => W.eq v17 (D.str "prop") fun v16 => W.truth v16 fun b15 => W.ite b15 (W.ii (fun _ _ => True) (fun a b => .int (a + b)) s2.1 (D.int 1) fun v7 => k5 v7) (k5 s2.1)) fun s6 => W.join (fun k8 : (D) → Prop => W.ix y1 (D.int 0) fun v14 => W.eq v14 (D.str "unprop") fun v13 => W.truth v13 fun b12 => W.ite b12 (W.ii (fun _ _ => True) (fun a b => .int (a - b)) s6 (D.int 1) fun v10 => k8 v10) (k8 s6)) fun s9 => W.max2 [s2.2, s9] fun v11 => n3 (s9, v11)
theorem deed_ix {d : Dd} : ∃ (c : Str) (r : List D), deedD d = .tup (.str c :: r) ∧ (c = "prop" ↔ ∃ n, d = .prop n) ∧ (c = "unprop" ↔ d = .unprop) ∧ (c = "put" ↔ ∃ n, d = .put n) := by
  cases d with
  | put n => exact ⟨"put", _, rfl, ⟨fun z => absurd z (by decide +kernel), fun ⟨_, z⟩ => nomatch z⟩, ⟨fun z => absurd z (by decide +kernel), fun z => nomatch z⟩, ⟨fun _ => ⟨n, rfl⟩, fun _ => rfl⟩⟩
  | take n => exact ⟨"take", _, rfl, ⟨fun z => absurd z (by decide +kernel), fun ⟨_, z⟩ => nomatch z⟩, ⟨fun z => absurd z (by decide +kernel), fun z => nomatch z⟩, ⟨fun z => absurd z (by decide +kernel), fun ⟨_, z⟩ => nomatch z⟩⟩
  | prop n => exact ⟨"prop", _, rfl, ⟨fun _ => ⟨n, rfl⟩, fun _ => rfl⟩, ⟨fun z => absurd z (by decide +kernel), fun z => nomatch z⟩, ⟨fun z => absurd z (by decide +kernel), fun ⟨_, z⟩ => nomatch z⟩⟩
  | unprop => exact ⟨"unprop", _, rfl, ⟨fun z => absurd z (by decide +kernel), fun ⟨_, z⟩ => nomatch z⟩, ⟨fun _ => rfl, fun _ => rfl⟩, ⟨fun z => absurd z (by decide +kernel), fun ⟨_, z⟩ => nomatch z⟩⟩
theorem depth_loop {p : D × D → Prop} : ∀ (ds : List Dd) (st st' : List (List Nat)) (most : Nat), runs st ds = some st' → st.length ≤ most → p (.int (st'.length : Int), .int ((max most (deep st ds) : Nat) : Int)) →
    W.forL depthBody (deedsD ds) (.int (st.length : Int), .int (most : Int)) p
  | [], st, st', most, h, hm, q => by
    cases h
    have e : max most (deep st []) = most := by
      show max most st.length = most
      omega
    rw [e] at q
    exact q
  | d :: ds, st, st', most, h, hm, q => by
    have h2 : ((goes st d).bind fun s => runs s ds) = some st' := h
    cases e : goes st d with
    | none =>
      rw [e] at h2
      cases h2
    | some s1 =>
      rw [e] at h2
      have h2 : runs s1 ds = some st' := h2
      have ih := depth_loop (p := p) ds s1 st' (max most s1.length) h2 (Nat.le_max_right _ _) (by
        have e1 : max (max most s1.length) (deep s1 ds) = max most (deep st (d :: ds)) := by
          rw [deep_cons _ e]
          have := deep_start s1 ds
          omega
        rw [e1]
        exact q)
      obtain ⟨c, r, ed, c1, c2, c3⟩ := deed_ix (d := d)
      show depthBody (deedD d) _ _ _
      have fin : ∀ v : D, v = .int (s1.length : Int) → W.max2 [.int (most : Int), v] fun v11 => W.forL depthBody (deedsD ds) (v, v11) p := fun v ev => by
        subst ev
        show W.forL depthBody (deedsD ds) (.int (s1.length : Int), .int (if (s1.length : Int) > (most : Int) then (s1.length : Int) else (most : Int))) p
        have e2 : (if (s1.length : Int) > (most : Int) then (s1.length : Int) else (most : Int)) = ((max most s1.length : Nat) : Int) := by
          split <;> omega
        rw [e2]
        exact ih
      rw [ed]
      refine q_join (q_ixT (i := 0) rfl (q_eqS (q_t (q_dec (fun z => ?_) fun z => ?_))))
      · obtain ⟨n, rfl⟩ := c1.mp z
        cases e
        refine q_ii (q_join (q_ixT (i := 0) rfl (q_eqS (q_t (q_dec (fun z2 => nomatch c2.mp z2) fun _ => fin _ ?_)))))
        show D.int ((st.length : Int) + 1) = _
        rw [List.length_cons]
        rfl
      · refine q_join (q_ixT (i := 0) rfl (q_eqS (q_t (q_dec (fun z2 => ?_) fun z2 => fin _ ?_))))
        · have eu := c2.mp z2
          subst eu
          cases st with
          | nil => cases e
          | cons n st =>
            cases e
            refine q_ii (fin _ ?_)
            show D.int (((n :: s1).length : Int) - 1) = _
            rw [List.length_cons]
            refine congrArg D.int ?_
            omega
        · cases d with
          | put n =>
            cases e
            rfl
          | take n =>
            cases e
            rfl
          | prop n => exact (z (c1.mpr ⟨n, rfl⟩)).elim
          | unprop => exact (z2 (c2.mpr rfl)).elim
theorem q_depth {ds : List Dd} (h : Whole ds) {x : D} (hx : x = .lst (deedsD ds) ∨ x = .tup (deedsD ds)) {k : D → Prop} (q : k (.int (deep [] ds))) : p_depth_of x k := by
  have go : W.forL depthBody (deedsD ds) (.int 0, .int 0) fun s => k s.2 := depth_loop ds [] [] 0 h.runs (Nat.le_refl _) (by
    show k (.int ((max 0 (deep [] ds) : Nat) : Int))
    rw [Nat.zero_max]
    exact q)
  rcases hx with rfl | rfl <;> exact go
def backBody : D → List D × List D → (List D × List D → Prop) → (List D × List D → Prop) → Prop := fun y5 s6 n7 b8 => W.ix y5 (D.int 0) fun v22 => W.eq v22 (D.str "prop") fun v21 => W.truth v21 fun b20 => W.ite b20 (W.ix y5 (D.int 1) fun v9 => s6.1.length < sizeLine ∧ s6.2.length < sizeLine ∧ n7 ((s6.1 ++ [v9]), (s6.2 ++ [(D.tup [(D.str "unprop")])]))) (W.ix y5 (D.int 0) fun v19 => W.eq v19 (D.str "unprop") fun v18 => W.truth v18 fun b17 => W.ite b17 (W.top s6.1 fun x10 zs11 => s6.2.length < sizeLine ∧ n7 (zs11, (s6.2 ++ [.tup [.str "prop", x10]]))) (W.ix y5 (D.int 0) fun v16 => W.eq v16 (D.str "put") fun v15 => W.truth v15 fun b14 => W.ite b14 (W.ix y5 (D.int 1) fun v12 => s6.2.length < sizeLine ∧ n7 (s6.1, (s6.2 ++ [(D.tup [(D.str "take"), v12])]))) (W.ix y5 (D.int 1) fun v13 => s6.2.length < sizeLine ∧ n7 (s6.1, (s6.2 ++ [(D.tup [(D.str "put"), v13])])))))
theorem back_loop {p : List D × List D → Prop} : ∀ (ds : List Dd) (st st' : List (List Nat)) (acc : List D), runs st ds = some st' → acc.length + ds.length ≤ 1000 → st.length + ds.length ≤ 1000 → p (namesD st'.reverse, acc ++ deedsD (undos st ds)) →
    W.forL backBody (deedsD ds) (namesD st.reverse, acc) p
  | [], st, st', acc, h, _, _, q => by
    cases h
    have e : acc ++ deedsD (undos st []) = acc := List.append_nil acc
    rw [e] at q
    exact q
  | d :: ds, st, st', acc, h, ha, hs, q => by
    have h2 : ((goes st d).bind fun s => runs s ds) = some st' := h
    rw [List.length_cons] at ha hs
    have l1 : acc.length < sizeLine := Nat.lt_of_lt_of_le (by omega : acc.length < 1001) (by decide)
    have l2 : (namesD st.reverse).length < sizeLine := by
      rw [namesD_len, List.length_reverse]
      exact Nat.lt_of_lt_of_le (by omega : st.length < 1001) (by decide)
    cases e : goes st d with
    | none =>
      rw [e] at h2
      cases h2
    | some s1 =>
      rw [e] at h2
      have h2 : runs s1 ds = some st' := h2
      have l3 : s1.length ≤ st.length + 1 := by
        cases d with
        | put n =>
          cases e
          omega
        | take n =>
          cases e
          omega
        | prop n =>
          cases e
          exact Nat.le_refl _
        | unprop =>
          cases st with
          | nil => cases e
          | cons n st =>
            cases e
            rw [List.length_cons]
            omega
      have ih := back_loop (p := p) ds s1 st' (acc ++ [deedD (undo st d)]) h2 (by rw [List.length_append, List.length_singleton]; omega) (by omega) (by
        rw [undos_cons _ e] at q
        have e3 : acc ++ [deedD (undo st d)] ++ deedsD (undos s1 ds) = acc ++ deedsD (undo st d :: undos s1 ds) := by simp [deedsD]
        rw [e3]
        exact q)
      show backBody (deedD d) _ _ _
      cases d with
      | put n =>
        cases e
        refine q_ixT (i := 0) rfl (q_eqS (q_t (q_dec (fun z => absurd z (by decide +kernel)) fun _ => q_ixT (i := 0) rfl (q_eqS (q_t (q_dec (fun z => absurd z (by decide +kernel)) fun _ => q_ixT (i := 0) rfl (q_eqS (q_t (q_dec (fun _ => q_ixT (i := 1) rfl ⟨l1, ih⟩) fun z => absurd rfl z)))))))))
      | take n =>
        cases e
        refine q_ixT (i := 0) rfl (q_eqS (q_t (q_dec (fun z => absurd z (by decide +kernel)) fun _ => q_ixT (i := 0) rfl (q_eqS (q_t (q_dec (fun z => absurd z (by decide +kernel)) fun _ => q_ixT (i := 0) rfl (q_eqS (q_t (q_dec (fun z => absurd z (by decide +kernel)) fun _ => q_ixT (i := 1) rfl ⟨l1, ih⟩)))))))))
      | prop n =>
        cases e
        have e4 : namesD (n :: st).reverse = namesD st.reverse ++ [.str (tx n)] := by
          unfold namesD
          rw [List.reverse_cons, List.map_append]
          rfl
        rw [e4] at ih
        exact q_ixT (i := 0) rfl (q_eqS (q_t (q_dec (fun _ => q_ixT (i := 1) rfl ⟨l2, l1, ih⟩) fun z => absurd rfl z)))
      | unprop =>
        cases st with
        | nil => cases e
        | cons n st =>
          cases e
          have e4 : namesD (n :: s1).reverse = namesD s1.reverse ++ [.str (tx n)] := by
            unfold namesD
            rw [List.reverse_cons, List.map_append]
            rfl
          refine q_ixT (i := 0) rfl (q_eqS (q_t (q_dec (fun z => absurd z (by decide +kernel)) fun _ => q_ixT (i := 0) rfl (q_eqS (q_t (q_dec (fun _ => ⟨namesD s1.reverse, .str (tx n), e4, l1, ih⟩) fun z => absurd rfl z))))))
theorem q_back {ds : List Dd} (h : Whole ds) {x : D} (hx : x = .lst (deedsD ds) ∨ x = .tup (deedsD ds)) {k : D → Prop} (q : k (.tup (deedsD (undos [] ds).reverse))) : p_reverse_of x k := by
  have hl := h.len
  have go : W.forL backBody (deedsD ds) ([], []) fun s23 => W.rev (D.lst s23.2) fun v25 => W.tupleOf [v25] fun v24 => k v24 := back_loop ds [] [] [] h.runs (by rw [List.length_nil]; omega) (by rw [List.length_nil]; omega) (by
    show k (.tup ([] ++ deedsD (undos [] ds)).reverse)
    rw [List.nil_append]
    unfold deedsD
    rw [← List.map_reverse]
    exact q)
  rcases hx with rfl | rfl <;> exact go
end Dw

namespace Dw
open PySem PySem.Spec PyProof.Rows L2
abbrev s_depth_of : Stmt := topW 5
abbrev n_depth_of : List Str := ["deeds", "now", "most", "deed"]
theorem sc_depth_of : FnScope n_depth_of ["deeds"] (defScope s_depth_of) := ⟨rfl, rfl, rfl, by decide +kernel, rfl, by decide +kernel, by decide +kernel⟩
abbrev s_reverse_of : Stmt := topW 6
abbrev n_reverse_of : List Str := ["deeds", "propped", "back", "deed"]
theorem sc_reverse_of : FnScope n_reverse_of ["deeds"] (defScope s_reverse_of) := ⟨rfl, rfl, rfl, by decide +kernel, rfl, by decide +kernel, by decide +kernel⟩
structure Tx (P : Program) (w : World) (K : PySem.W.Frag) (mg : Str → Option Value) (base : Heap) where
  f_depth_of : Addr
  fd_depth_of : FuncData
  F_depth_of : Fun K "depth_of" "depth_of" s_depth_of f_depth_of fd_depth_of
  g_depth_of : mg "depth_of" = some (.ref f_depth_of)
  k_depth_of : PySem.W.keepIn K (.ref f_depth_of) = true
  b_depth_of : Binds K fd_depth_of ["deeds"] []
  f_reverse_of : Addr
  fd_reverse_of : FuncData
  F_reverse_of : Fun K "reverse_of" "reverse_of" s_reverse_of f_reverse_of fd_reverse_of
  g_reverse_of : mg "reverse_of" = some (.ref f_reverse_of)
  k_reverse_of : PySem.W.keepIn K (.ref f_reverse_of) = true
  b_reverse_of : Binds K fd_reverse_of ["deeds"] []
  z_max : mg "max" = none
  z_tuple : mg "tuple" = none
  c_PROP : Value
  gc_PROP : mg "PROP" = some c_PROP
  rc_PROP : RelV (.str "prop") c_PROP
  c_PUT : Value
  gc_PUT : mg "PUT" = some c_PUT
  rc_PUT : RelV (.str "put") c_PUT
  c_TAKE : Value
  gc_TAKE : mg "TAKE" = some c_TAKE
  rc_TAKE : RelV (.str "take") c_TAKE
  c_UNPROP : Value
  gc_UNPROP : mg "UNPROP" = some c_UNPROP
  rc_UNPROP : RelV (.str "unprop") c_UNPROP
section
variable {P : Program} {w : World} {K : PySem.W.Frag} {mg : Str → Option Value} {base : Heap}
set_option maxHeartbeats 0 in
theorem ok_depth_of (T : Tx P w K mg base) : FnOk P w K mg base CX0 1 T.f_depth_of T.fd_depth_of ["deeds"] (SpP0 K (W.a1 p_depth_of)) := by
  refine fn_w (k := 0) (S := pure0) (W := fun _ => W.a1 p_depth_of) T.F_depth_of sc_depth_of (fun g ds k h => by obtain ⟨_, rfl, _⟩ := a1_e h; rfl) fun cdv A outer s H E g ds kr F1 f0 tr hr h => ?_
  have hu := hr.units
  have hu65 := hr.units65
  obtain ⟨x0, rfl, h0⟩ := a1_e h
  unfold p_depth_of at h0
  exact ⟨_, (pss_cons (ps_set (i := 1) sc_depth_of.nd rfl (Or.inl rfl) pe_int) (pss_cons (ps_set (i := 2) sc_depth_of.nd rfl (Or.inl rfl) pe_int) (pss_cons (ps_for PassesOwn.never rfl (pi_seq (pv 0)) (pg_name (i := 3) sc_depth_of.nd rfl (Or.inl rfl)) (pss_cons (ps_if (pt_cmpR (op_eqW hu) (pe_ix (show IxR _ (rIx K) from ix_seq) (pv 3) pe_int (fun _ _ => rfl)) (pe_glob (by rfl) T.gc_PROP T.rc_PROP) (nomark _)) (pss_one (ps_aug (i := 1) sc_depth_of.nd rfl (Or.inl rfl) pe_int ip_add)) pss_nil) (pss_cons (ps_if (pt_cmpR (op_eqW hu) (pe_ix (show IxR _ (rIx K) from ix_seq) (pv 3) pe_int (fun _ _ => rfl)) (pe_glob (by rfl) T.gc_UNPROP T.rc_UNPROP) (nomark _)) (pss_one (ps_aug (i := 1) sc_depth_of.nd rfl (Or.inl rfl) pe_int ip_sub)) pss_nil) (pss_one (ps_set (i := 2) sc_depth_of.nd rfl (Or.inl rfl) (pe_callB (show CallR _ _ (fun xs H Q => ∃ i j, xs = [V.int i, V.int j] ∧ Q (.int (if j > i then j else i)) H) from (call_max2 rfl)) (by rfl) T.z_max (by decide +kernel) (pa_cons (pv 2) (pa_cons (pv 1) pa_nil)))))))) (pss_one (ps_ret (pv 2)))))), (s_asg (de_int (s_asg (de_int (s_for (S := (D × D)) (js := [3]) (fun (s : D × D) (r : List Sl) => ∃ t1 : Sl, r = [.d x0, .d s.1, .d s.2, t1]) _ ((D.int 0), (D.int 0)) _ (i_seq (de_var rfl h0)) ⟨_, rfl⟩ (fun y2 s3 _ n4 b5 e22 h21 => (by obtain ⟨t1, rfl⟩ := e22; exact (dg_name (s_if (S := D) (fun (s : D) (r : List Sl) => r = [.d x0, .d s, .d s3.2, .d y2]) h21 (fun h38 => (DT.imp (t_test (e_op2 l_eq (De.v (De.imp (e_op2 l_ix (De.v (de_var rfl (De.v (de_int h38))))) fun v18 h40 => (De.v (de_str h40)))))) fun b16 h39 => (ite_split h39 (fun h25 => (ds_last (s_aug rfl (de_int (ii_imp h25 fun v8 h41 => (ds_nextK rfl v8 h41 rfl)))))) (fun h26 => (ds_nextK rfl s3.1 h26 rfl))))) (fun s7 _ e28 h27 => (by subst e28; exact (s_if (S := D) (fun (s : D) (r : List Sl) => r = [.d x0, .d s, .d s3.2, .d y2]) h27 (fun h34 => (DT.imp (t_test (e_op2 l_eq (De.v (De.imp (e_op2 l_ix (De.v (de_var rfl (De.v (de_int h34))))) fun v15 h36 => (De.v (de_str h36)))))) fun b13 h35 => (ite_split h35 (fun h29 => (ds_last (s_aug rfl (de_int (ii_imp h29 fun v11 h37 => (ds_nextK rfl v11 h37 rfl)))))) (fun h30 => (ds_nextK rfl s7 h30 rfl))))) (fun s10 _ e32 h31 => (by subst e32; exact (ds_last (s_asg (De.imp (e_cb l_max2 (dav_cons (De.v (de_var rfl (dav_cons (De.v (de_var rfl (dav_nil h31)))))))) fun v12 h33 => (ds_nextK rfl (s10, v12) h33 ⟨_, rfl⟩))))))))))))) (fun s19 _ e24 h23 => (by obtain ⟨t1, rfl⟩ := e24; exact (s_ret (de_var rfl h23)))))))))⟩
set_option maxHeartbeats 0 in
theorem ok_reverse_of (T : Tx P w K mg base) : FnOk P w K mg base CX0 1 T.f_reverse_of T.fd_reverse_of ["deeds"] (SpP0 K (W.a1 p_reverse_of)) := by
  refine fn_w (k := 0) (S := pure0) (W := fun _ => W.a1 p_reverse_of) T.F_reverse_of sc_reverse_of (fun g ds k h => by obtain ⟨_, rfl, _⟩ := a1_e h; rfl) fun cdv A outer s H E g ds kr F1 f0 tr hr h => ?_
  have hu := hr.units
  have hu65 := hr.units65
  obtain ⟨x0, rfl, h0⟩ := a1_e h
  unfold p_reverse_of at h0
  exact ⟨_, (pss_cons (ps_set (i := 1) sc_reverse_of.nd rfl (Or.inl rfl) (pe_lst pa_nil)) (pss_cons (ps_set (i := 2) sc_reverse_of.nd rfl (Or.inl rfl) (pe_lst pa_nil)) (pss_cons (ps_for PassesOwn.never rfl (pi_seq (pv 0)) (pg_name (i := 3) sc_reverse_of.nd rfl (Or.inl rfl)) (pss_one (ps_if (pt_cmpR (op_eqW hu) (pe_ix (show IxR _ (rIx K) from ix_seq) (pv 3) pe_int (fun _ _ => rfl)) (pe_glob (by rfl) T.gc_PROP T.rc_PROP) (nomark _)) (pss_cons (ps_expr (pe_bm PySem.F.plainAttrs_list PySem.F.slot_list_append PySem.F.type_list_append mt_append (pv 1) (pa_cons (pe_ix (show IxR _ (rIx K) from ix_seq) (pv 3) pe_int (fun _ _ => rfl)) pa_nil))) (pss_one (ps_expr (pe_bm PySem.F.plainAttrs_list PySem.F.slot_list_append PySem.F.type_list_append mt_append (pv 2) (pa_cons (pe_tup (pa_cons (pe_glob (by rfl) T.gc_UNPROP T.rc_UNPROP) pa_nil)) pa_nil))))) (pss_one (ps_if (pt_cmpR (op_eqW hu) (pe_ix (show IxR _ (rIx K) from ix_seq) (pv 3) pe_int (fun _ _ => rfl)) (pe_glob (by rfl) T.gc_UNPROP T.rc_UNPROP) (nomark _)) (pss_one (ps_expr (pe_bm PySem.F.plainAttrs_list PySem.F.slot_list_append PySem.F.type_list_append mt_append (pv 2) (pa_cons (pe_tup (pa_cons (pe_glob (by rfl) T.gc_PROP T.rc_PROP) (pa_cons (pe_bm0 PySem.F.plainAttrs_list PySem.F.slot_list_pop PySem.F.type_list_pop mt_pop (pv 1)) pa_nil))) pa_nil)))) (pss_one (ps_if (pt_cmpR (op_eqW hu) (pe_ix (show IxR _ (rIx K) from ix_seq) (pv 3) pe_int (fun _ _ => rfl)) (pe_glob (by rfl) T.gc_PUT T.rc_PUT) (nomark _)) (pss_one (ps_expr (pe_bm PySem.F.plainAttrs_list PySem.F.slot_list_append PySem.F.type_list_append mt_append (pv 2) (pa_cons (pe_tup (pa_cons (pe_glob (by rfl) T.gc_TAKE T.rc_TAKE) (pa_cons (pe_ix (show IxR _ (rIx K) from ix_seq) (pv 3) pe_int (fun _ _ => rfl)) pa_nil))) pa_nil)))) (pss_one (ps_expr (pe_bm PySem.F.plainAttrs_list PySem.F.slot_list_append PySem.F.type_list_append mt_append (pv 2) (pa_cons (pe_tup (pa_cons (pe_glob (by rfl) T.gc_PUT T.rc_PUT) (pa_cons (pe_ix (show IxR _ (rIx K) from ix_seq) (pv 3) pe_int (fun _ _ => rfl)) pa_nil))) pa_nil))))))))))) (pss_one (ps_ret (pe_callTy (show CallR _ _ (fun xs H Q => ∃ p ys, xs = [.ref p] ∧ ((SqL K H p ys ∧ ∀ l, H l = none → Q (.ref l) (upd H l (.tup ys))) ∨ (SqT K H p ys ∧ Q (.ref p) H))) from call_tuple_of) (by rfl) T.z_tuple (by decide +kernel) (pa_cons (pe_revL (pv 2)) pa_nil))))))), (s_own (da_nil ⟨lenLe 0 (by decide), fun p1 _ => (s_own (da_nil ⟨lenLe 0 (by decide), fun p3 _ => (s_for (S := (List D × List D)) (js := [3]) (fun (s : List D × List D) (r : List Sl) => ∃ t5 : Sl, r = [.d x0, .mu p1 s.1, .mu p3 s.2, t5]) _ ([], []) _ (i_seq (de_var rfl h0)) ⟨_, rfl⟩ (fun y6 s7 _ n8 b9 e29 h28 => (by obtain ⟨t5, rfl⟩ := e29; exact (dg_name (ds_last (s_ifR (DT.imp (t_test (e_op2 l_eq (De.v (De.imp (e_op2 l_ix (De.v (de_var rfl (De.v (de_int h28))))) fun v23 h35 => (De.v (de_str h35)))))) fun b21 h34 => (ite_split h34 (fun h32 => (s_append rfl (De.imp (e_op2 l_ix (De.v (de_var rfl (De.v (de_int h32))))) fun v10 h36 => ⟨And.left h36, (ds_last (s_append rfl (e_tup (da_cons (de_str (da_nil ⟨lenLe 1 (by decide), ⟨And.left (And.right h36), (ds_next (ds_nextK rfl ((s7.1 ++ [v10]), (s7.2 ++ [(D.tup [(D.str "unprop")])])) (And.right (And.right h36)) ⟨_, rfl⟩))⟩⟩))))))⟩))) (fun h33 => (ds_last (s_ifR (DT.imp (t_test (e_op2 l_eq (De.v (De.imp (e_op2 l_ix (De.v (de_var rfl (De.v (de_int h33))))) fun v20 h40 => (De.v (de_str h40)))))) fun b18 h39 => (ite_split h39 (fun h37 => (ds_last (s_appendTop (i := 1) (j := 2) rfl rfl (by decide) (top_imp h37 fun x11 zs12 h41 => ⟨And.left h41, (ds_next (ds_next (ds_nextK rfl (zs12, (s7.2 ++ [.tup [.str "prop", x11]])) (And.right h41) ⟨_, rfl⟩)))⟩)))) (fun h38 => (ds_last (s_ifR (DT.imp (t_test (e_op2 l_eq (De.v (De.imp (e_op2 l_ix (De.v (de_var rfl (De.v (de_int h38))))) fun v17 h45 => (De.v (de_str h45)))))) fun b15 h44 => (ite_split h44 (fun h42 => (ds_last (s_append rfl (e_tup (da_cons (de_str (da_cons (De.imp (e_op2 l_ix (De.v (de_var rfl (De.v (de_int h42))))) fun v13 h46 => (da_nil ⟨lenLe 2 (by decide), ⟨And.left h46, (ds_next (ds_next (ds_next (ds_nextK rfl (s7.1, (s7.2 ++ [(D.tup [(D.str "take"), v13])])) (And.right h46) ⟨_, rfl⟩))))⟩⟩))))))))) (fun h43 => (ds_last (s_append rfl (e_tup (da_cons (de_str (da_cons (De.imp (e_op2 l_ix (De.v (de_var rfl (De.v (de_int h43))))) fun v14 h47 => (da_nil ⟨lenLe 2 (by decide), ⟨And.left h47, (ds_next (ds_next (ds_next (ds_nextK rfl (s7.1, (s7.2 ++ [(D.tup [(D.str "put"), v14])])) (And.right h47) ⟨_, rfl⟩))))⟩⟩)))))))))))))))))))))))))) (fun s24 _ e31 h30 => (by obtain ⟨t5, rfl⟩ := e31; exact (s_ret (e_cb l_tupleOf (dav_cons (De.v (De.imp (e_rev (dv_mu rfl h30)) fun v26 h48 => (dav_nil h48)))))))))⟩))⟩))⟩
end
end Dw

/-! K28b: all put together. -/
namespace Dw
open PySem PySem.Spec PyProof.Rows L2
theorem deedD_inj {a b : Dd} (h : deedD a = deedD b) : a = b := by
  cases a <;> cases b <;> first
    | rfl
    | (injection h with h; injection h with h1 h2; injection h1 with h1; exact absurd h1 (by decide +kernel))
    | (injection h with h; injection h with h1 h2; injection h2 with h2 h3; injection h2 with h2; rw [tx_inj h2])
    | (injection h with h; injection h with h1 h2; cases h2)
theorem deedsD_inj : ∀ {a b : List Dd}, deedsD a = deedsD b → a = b
  | [], [], _ => rfl
  | [], _ :: _, h => nomatch h
  | _ :: _, [], h => nomatch h
  | x :: xs, y :: ys, h => by
    injection h with h1 h2
    rw [deedD_inj h1, deedsD_inj h2]
section
variable {P : Program} {w : World} {K : PySem.W.Frag} {mg : Str → Option Value} {base : Heap} {k : Nat} {f : Addr} {fd : FuncData} {n : Str}
theorem depth_dw (F : FnOk P w K mg base CX0 k f fd [n] (SpP0 K (W.a1 p_depth_of))) : FnOk P w K mg base CX0 k f fd [n] (SpP K preDeeds postDepth) := F.imp fun vs H Q E h => by
  obtain ⟨g, ds, F1, p, f0, tr, i, ⟨dd, hW, hx⟩, z⟩ := h
  obtain ⟨x, rfl⟩ : ∃ x, ds = [x] := by rcases hx with rfl | rfl <;> exact ⟨_, rfl⟩
  have hx2 : x = .lst (deedsD dd) ∨ x = .tup (deedsD dd) := hx.imp (fun e => by injection e) fun e => by injection e
  refine ⟨g, [x], F1, fun d => d = .int (deep [] dd), p, f0, tr, i, (show W.a1 p_depth_of [x] _ from q_depth (k := fun d => d = .int (deep [] dd)) hW hx2 rfl), fun v H' d s i' po e => z v H' d s i' po fun ds' hW' hx' => ?_⟩
  rw [e]
  have hx3 : x = .lst (deedsD ds') ∨ x = .tup (deedsD ds') := hx'.imp (fun e => by injection e) fun e => by injection e
  have e2 : deedsD dd = deedsD ds' := by
    rcases hx2 with rfl | rfl
    · rcases hx3 with hx3 | hx3
      · injection hx3
      · cases hx3
    · rcases hx3 with hx3 | hx3
      · cases hx3
      · injection hx3
  rw [deedsD_inj e2]
theorem back_dw (F : FnOk P w K mg base CX0 k f fd [n] (SpP0 K (W.a1 p_reverse_of))) : FnOk P w K mg base CX0 k f fd [n] (SpP K preDeeds postBack) := F.imp fun vs H Q E h => by
  obtain ⟨g, ds, F1, p, f0, tr, i, ⟨dd, hW, hx⟩, z⟩ := h
  obtain ⟨x, rfl⟩ : ∃ x, ds = [x] := by rcases hx with rfl | rfl <;> exact ⟨_, rfl⟩
  have hx2 : x = .lst (deedsD dd) ∨ x = .tup (deedsD dd) := hx.imp (fun e => by injection e) fun e => by injection e
  refine ⟨g, [x], F1, fun d => d = .tup (deedsD (undos [] dd).reverse), p, f0, tr, i, (show W.a1 p_reverse_of [x] _ from q_back (k := fun d => d = .tup (deedsD (undos [] dd).reverse)) hW hx2 rfl), fun v H' d s i' po e => z v H' d s i' po fun ds' hW' hx' => ?_⟩
  rw [e]
  have hx3 : x = .lst (deedsD ds') ∨ x = .tup (deedsD ds') := hx'.imp (fun e => by injection e) fun e => by injection e
  have e2 : deedsD dd = deedsD ds' := by
    rcases hx2 with rfl | rfl
    · rcases hx3 with hx3 | hx3
      · injection hx3
      · cases hx3
    · rcases hx3 with hx3 | hx3
      · cases hx3
      · injection hx3
  rw [deedsD_inj e2]
end
theorem all_mk {P : Program} {w : World} {K : PySem.W.Frag} {h : Heap} {mg : Str → Option Value} {fa f__law_deal f__law_draw f__law_mixed f__law_any_word f__law_words f__law_drawn f_depth_of f_reverse_of f_law : Addr} (X : K.In h) (G : h.Ns mainGlobals mg) (hfa : mg "law" = some (.ref fa))
    {od__law_deal an__law_deal od__law_draw an__law_draw od__law_mixed an__law_mixed od__law_any_word an__law_any_word od__law_words an__law_words od__law_drawn an__law_drawn od_depth_of an_depth_of od_reverse_of an_reverse_of od_law an_law : Option Addr} {sl__law_deal sl__law_draw sl__law_mixed sl__law_any_word sl__law_words sl__law_drawn sl_depth_of sl_reverse_of sl_law : Array (Option Value)} {oc__law_deal kV__law_deal dc__law_deal pm__law_deal cd__law_deal ct__law_deal oc__law_draw kV__law_draw dc__law_draw pm__law_draw cd__law_draw ct__law_draw oc__law_mixed kV__law_mixed dc__law_mixed pm__law_mixed cd__law_mixed ct__law_mixed oc__law_any_word kV__law_any_word dc__law_any_word pm__law_any_word cd__law_any_word ct__law_any_word oc__law_words kV__law_words dc__law_words pm__law_words cd__law_words ct__law_words oc__law_drawn kV__law_drawn dc__law_drawn pm__law_drawn cd__law_drawn ct__law_drawn oc_depth_of kV_depth_of dc_depth_of pm_depth_of cd_depth_of ct_depth_of oc_reverse_of kV_reverse_of dc_reverse_of pm_reverse_of cd_reverse_of ct_reverse_of oc_law kV_law dc_law pm_law cd_law ct_law : Value}
    {tk_PUT tk_TAKE tk_PROP tk_UNPROP : Tok}
    (a__law_deal : PySem.W.nsIn K mainGlobals "_law_deal" = some (some (.ref f__law_deal))) (l__law_deal : K.lookup f__law_deal = some ⟨oc__law_deal, od__law_deal, .func (PySem.W.fnOf "_law_deal" "_law_deal" (defArgs sDeal) (defBody sDeal) (defScope sDeal) .none kV__law_deal dc__law_deal pm__law_deal an__law_deal cd__law_deal ct__law_deal), sl__law_deal⟩) (d__law_deal : PySem.W.codeIn K cd__law_deal "_law_deal" = true) (k__law_deal : PySem.W.keepIn K (.ref f__law_deal) = true)
    (a__law_draw : PySem.W.nsIn K mainGlobals "_law_draw" = some (some (.ref f__law_draw))) (l__law_draw : K.lookup f__law_draw = some ⟨oc__law_draw, od__law_draw, .func (PySem.W.fnOf "_law_draw" "_law_draw" (defArgs sDraw) (defBody sDraw) (defScope sDraw) .none kV__law_draw dc__law_draw pm__law_draw an__law_draw cd__law_draw ct__law_draw), sl__law_draw⟩) (d__law_draw : PySem.W.codeIn K cd__law_draw "_law_draw" = true) (k__law_draw : PySem.W.keepIn K (.ref f__law_draw) = true)
    (a__law_mixed : PySem.W.nsIn K mainGlobals "_law_mixed" = some (some (.ref f__law_mixed))) (l__law_mixed : K.lookup f__law_mixed = some ⟨oc__law_mixed, od__law_mixed, .func (PySem.W.fnOf "_law_mixed" "_law_mixed" (defArgs sMix) (defBody sMix) (defScope sMix) .none kV__law_mixed dc__law_mixed pm__law_mixed an__law_mixed cd__law_mixed ct__law_mixed), sl__law_mixed⟩) (d__law_mixed : PySem.W.codeIn K cd__law_mixed "_law_mixed" = true) (k__law_mixed : PySem.W.keepIn K (.ref f__law_mixed) = true)
    (a__law_any_word : PySem.W.nsIn K mainGlobals "_law_any_word" = some (some (.ref f__law_any_word))) (l__law_any_word : K.lookup f__law_any_word = some ⟨oc__law_any_word, od__law_any_word, .func (PySem.W.fnOf "_law_any_word" "_law_any_word" (defArgs sAny) (defBody sAny) (defScope sAny) .none kV__law_any_word dc__law_any_word pm__law_any_word an__law_any_word cd__law_any_word ct__law_any_word), sl__law_any_word⟩) (d__law_any_word : PySem.W.codeIn K cd__law_any_word "_law_any_word" = true) (k__law_any_word : PySem.W.keepIn K (.ref f__law_any_word) = true)
    (a__law_words : PySem.W.nsIn K mainGlobals "_law_words" = some (some (.ref f__law_words))) (l__law_words : K.lookup f__law_words = some ⟨oc__law_words, od__law_words, .func (PySem.W.fnOf "_law_words" "_law_words" (defArgs sWor) (defBody sWor) (defScope sWor) .none kV__law_words dc__law_words pm__law_words an__law_words cd__law_words ct__law_words), sl__law_words⟩) (d__law_words : PySem.W.codeIn K cd__law_words "_law_words" = true) (k__law_words : PySem.W.keepIn K (.ref f__law_words) = true)
    (a__law_drawn : PySem.W.nsIn K mainGlobals "_law_drawn" = some (some (.ref f__law_drawn))) (l__law_drawn : K.lookup f__law_drawn = some ⟨oc__law_drawn, od__law_drawn, .func (PySem.W.fnOf "_law_drawn" "_law_drawn" (defArgs sDra) (defBody sDra) (defScope sDra) .none kV__law_drawn dc__law_drawn pm__law_drawn an__law_drawn cd__law_drawn ct__law_drawn), sl__law_drawn⟩) (d__law_drawn : PySem.W.codeIn K cd__law_drawn "_law_drawn" = true) (k__law_drawn : PySem.W.keepIn K (.ref f__law_drawn) = true)
    (a_depth_of : PySem.W.nsIn K mainGlobals "depth_of" = some (some (.ref f_depth_of))) (l_depth_of : K.lookup f_depth_of = some ⟨oc_depth_of, od_depth_of, .func (PySem.W.fnOf "depth_of" "depth_of" (defArgs s_depth_of) (defBody s_depth_of) (defScope s_depth_of) .none kV_depth_of dc_depth_of pm_depth_of an_depth_of cd_depth_of ct_depth_of), sl_depth_of⟩) (d_depth_of : PySem.W.codeIn K cd_depth_of "depth_of" = true) (k_depth_of : PySem.W.keepIn K (.ref f_depth_of) = true)
    (a_reverse_of : PySem.W.nsIn K mainGlobals "reverse_of" = some (some (.ref f_reverse_of))) (l_reverse_of : K.lookup f_reverse_of = some ⟨oc_reverse_of, od_reverse_of, .func (PySem.W.fnOf "reverse_of" "reverse_of" (defArgs s_reverse_of) (defBody s_reverse_of) (defScope s_reverse_of) .none kV_reverse_of dc_reverse_of pm_reverse_of an_reverse_of cd_reverse_of ct_reverse_of), sl_reverse_of⟩) (d_reverse_of : PySem.W.codeIn K cd_reverse_of "reverse_of" = true) (k_reverse_of : PySem.W.keepIn K (.ref f_reverse_of) = true)
    (a_law : PySem.W.nsIn K mainGlobals "law" = some (some (.ref f_law))) (l_law : K.lookup f_law = some ⟨oc_law, od_law, .func (PySem.W.fnOf "law" "law" (defArgs sLaw) (defBody sLaw) (defScope sLaw) .none kV_law dc_law pm_law an_law cd_law ct_law), sl_law⟩) (d_law : PySem.W.codeIn K cd_law "law" = true) (k_law : PySem.W.keepIn K (.ref f_law) = true)
    (c_PUT : PySem.W.nsIn K mainGlobals "PUT" = some (some (.str "put" tk_PUT)))
    (c_TAKE : PySem.W.nsIn K mainGlobals "TAKE" = some (some (.str "take" tk_TAKE)))
    (c_PROP : PySem.W.nsIn K mainGlobals "PROP" = some (some (.str "prop" tk_PROP)))
    (c_UNPROP : PySem.W.nsIn K mainGlobals "UNPROP" = some (some (.str "unprop" tk_UNPROP)))
    (z_max : PySem.W.nsIn K mainGlobals "max" = some none) (z_list : PySem.W.nsIn K mainGlobals "list" = some none) (z_reversed : PySem.W.nsIn K mainGlobals "reversed" = some none) (z_len : PySem.W.nsIn K mainGlobals "len" = some none) (z_range : PySem.W.nsIn K mainGlobals "range" = some none) (z_int : PySem.W.nsIn K mainGlobals "int" = some none) (z_tuple : PySem.W.nsIn K mainGlobals "tuple" = some none) (z_repr : PySem.W.nsIn K mainGlobals "repr" = some none) :
    ∃ fd : FuncData, (∀ (s : Shared) (v : Value), BindsTo s fd ⟨[v], []⟩ [("_law_script", v)]) ∧ ∀ base : Heap, K.In base → base.Ns mainGlobals mg → FnG P w K mg base 7 fa fd ["_law_script"] (spLaw K) := by
  have e := hfa.symm.trans (PySem.W.mg_of X G a_law)
  cases e
  have F__law_deal := fun_mk (st := sDeal) l__law_deal d__law_deal k__law_deal
  have b__law_deal := F__law_deal.binds (ps := ["_law_script", "_law_base"]) fun _ _ _ _ _ _ us hl => match us, hl with | [_, _], _ => rfl
  have F__law_draw := fun_mk (st := sDraw) l__law_draw d__law_draw k__law_draw
  have b__law_draw := F__law_draw.binds (ps := ["_law_deal_here", "_law_many"]) fun _ _ _ _ _ _ us hl => match us, hl with | [_, _], _ => rfl
  have F__law_mixed := fun_mk (st := sMix) l__law_mixed d__law_mixed k__law_mixed
  have b__law_mixed := F__law_mixed.binds (ps := ["_law_deal_here", "_law_items"]) fun _ _ _ _ _ _ us hl => match us, hl with | [_, _], _ => rfl
  have F__law_any_word := fun_mk (st := sAny) l__law_any_word d__law_any_word k__law_any_word
  have b__law_any_word := F__law_any_word.binds (ps := ["_law_deal_here", "_law_last"]) fun _ _ _ _ _ _ us hl => match us, hl with | [_, _], _ => rfl
  have F__law_words := fun_mk (st := sWor) l__law_words d__law_words k__law_words
  have b__law_words := F__law_words.binds (ps := ["_law_deal_here", "_law_many"]) fun _ _ _ _ _ _ us hl => match us, hl with | [_, _], _ => rfl
  have F__law_drawn := fun_mk (st := sDra) l__law_drawn d__law_drawn k__law_drawn
  have b__law_drawn := F__law_drawn.binds (ps := ["_law_deal_here", "_law_names"]) fun _ _ _ _ _ _ us hl => match us, hl with | [_, _], _ => rfl
  have F_depth_of := fun_mk (st := s_depth_of) l_depth_of d_depth_of k_depth_of
  have b_depth_of := F_depth_of.binds (ps := ["deeds"]) fun _ _ _ _ _ _ us hl => match us, hl with | [_], _ => rfl
  have F_reverse_of := fun_mk (st := s_reverse_of) l_reverse_of d_reverse_of k_reverse_of
  have b_reverse_of := F_reverse_of.binds (ps := ["deeds"]) fun _ _ _ _ _ _ us hl => match us, hl with | [_], _ => rfl
  have F_law := fun_mk (st := sLaw) l_law d_law k_law
  refine ⟨PySem.W.fnOf "law" "law" (defArgs sLaw) (defBody sLaw) (defScope sLaw) .none kV_law dc_law pm_law an_law cd_law ct_law, fun s v => .of_eq rfl, fun base _ _ => ?_⟩
  have y_max := PySem.W.mg_none_of X G z_max
  have y_list := PySem.W.mg_none_of X G z_list
  have y_reversed := PySem.W.mg_none_of X G z_reversed
  have y_len := PySem.W.mg_none_of X G z_len
  have y_range := PySem.W.mg_none_of X G z_range
  have y_int := PySem.W.mg_none_of X G z_int
  have y_tuple := PySem.W.mg_none_of X G z_tuple
  have y_repr := PySem.W.mg_none_of X G z_repr
  have g__law_deal := PySem.W.mg_of X G a__law_deal
  have g__law_draw := PySem.W.mg_of X G a__law_draw
  have g__law_mixed := PySem.W.mg_of X G a__law_mixed
  have g__law_any_word := PySem.W.mg_of X G a__law_any_word
  have g__law_words := PySem.W.mg_of X G a__law_words
  have g__law_drawn := PySem.W.mg_of X G a__law_drawn
  have g_depth_of := PySem.W.mg_of X G a_depth_of
  have g_reverse_of := PySem.W.mg_of X G a_reverse_of
  have g_law := PySem.W.mg_of X G a_law
  have gc_PUT := PySem.W.mg_of X G c_PUT
  have gc_TAKE := PySem.W.mg_of X G c_TAKE
  have gc_PROP := PySem.W.mg_of X G c_PROP
  have gc_UNPROP := PySem.W.mg_of X G c_UNPROP
  have GD := ok_draw (P := P) (w := w) (base := base) (k := 0) F__law_draw y_len
  have GM := ok_mix (k := 1) F__law_mixed GD g__law_draw k__law_draw b__law_draw y_list y_len y_range
  have GA := ok_any (k := 1) F__law_any_word GD g__law_draw k__law_draw b__law_draw y_range
  have GW := ok_wor (k := 2) F__law_words (GD.mono (by decide)) g__law_draw k__law_draw b__law_draw GM g__law_mixed k__law_mixed b__law_mixed GA g__law_any_word k__law_any_word b__law_any_word y_range y_len y_int
  have GR := ok_dra (k := 1) F__law_drawn GD g__law_draw k__law_draw b__law_draw y_range y_len y_max y_tuple
  have T : Tx P w K mg base := ⟨_, _, F_depth_of, g_depth_of, k_depth_of, b_depth_of, _, _, F_reverse_of, g_reverse_of, k_reverse_of, b_reverse_of, y_max, y_tuple, _, gc_PROP, ⟨_, rfl⟩, _, gc_PUT, ⟨_, rfl⟩, _, gc_TAKE, ⟨_, rfl⟩, _, gc_UNPROP, ⟨_, rfl⟩⟩
  exact ok_law (k := 6) F_law (ok_deal (k := 5) F__law_deal y_max y_list y_reversed) g__law_deal k__law_deal b__law_deal (GD.mono (by decide)) g__law_draw k__law_draw b__law_draw (GW.mono (by decide)) g__law_words k__law_words b__law_words (GR.mono (by decide)) g__law_drawn k__law_drawn b__law_drawn
    (depth_dw ((ok_depth_of T).mono (by decide))) T.g_depth_of T.k_depth_of T.b_depth_of (back_dw ((ok_reverse_of T).mono (by decide))) T.g_reverse_of T.k_reverse_of T.b_reverse_of y_range y_len y_list y_tuple y_repr
end Dw

open PySem PySem.W PyProof.Rows in
set_option maxRecDepth 100000 in
set_option maxHeartbeats 0 in
theorem PySem.Challenge.cw_nestprops_k28_depths_and_reversed_script_holds : PySem.Challenge.rw_nestprops_k28_depths_and_reversed_script.Holds := by
  w_on; o_law; k_head; (case hw => w_witness2)
  k_fill
  refine Dw.walk_g (l := PySem.Challenge.rw_nestprops_k28_depths_and_reversed_script) (n := 63) (k := 7) (x := "_law_script") (sp := fun w => Dw.spLaw _) rfl (by decide) rfl ⟨rfl, by decide, by decide⟩ (fun w h Y => PySem.W.kIn_of Y) ?F (fun w H a ns hl hO hS => ⟨a, ns, rfl, hS, hl, fun _ => rfl⟩)
  case F =>
    intro w mg fa h KX G hmg
    refine' Dw.all_mk KX G hmg ?a__law_deal ?l__law_deal ?d__law_deal ?k__law_deal ?a__law_draw ?l__law_draw ?d__law_draw ?k__law_draw ?a__law_mixed ?l__law_mixed ?d__law_mixed ?k__law_mixed ?a__law_any_word ?l__law_any_word ?d__law_any_word ?k__law_any_word ?a__law_words ?l__law_words ?d__law_words ?k__law_words ?a__law_drawn ?l__law_drawn ?d__law_drawn ?k__law_drawn ?a_depth_of ?l_depth_of ?d_depth_of ?k_depth_of ?a_reverse_of ?l_reverse_of ?d_reverse_of ?k_reverse_of ?a_law ?l_law ?d_law ?k_law ?c_PUT ?c_TAKE ?c_PROP ?c_UNPROP ?z_max ?z_list ?z_reversed ?z_len ?z_range ?z_int ?z_tuple ?z_repr
    (case a__law_deal => k_is)
    (case l__law_deal => k_is)
    (case d__law_deal => k_is)
    (case k__law_deal => k_is)
    (case a__law_draw => k_is)
    (case l__law_draw => k_is)
    (case d__law_draw => k_is)
    (case k__law_draw => k_is)
    (case a__law_mixed => k_is)
    (case l__law_mixed => k_is)
    (case d__law_mixed => k_is)
    (case k__law_mixed => k_is)
    (case a__law_any_word => k_is)
    (case l__law_any_word => k_is)
    (case d__law_any_word => k_is)
    (case k__law_any_word => k_is)
    (case a__law_words => k_is)
    (case l__law_words => k_is)
    (case d__law_words => k_is)
    (case k__law_words => k_is)
    (case a__law_drawn => k_is)
    (case l__law_drawn => k_is)
    (case d__law_drawn => k_is)
    (case k__law_drawn => k_is)
    (case a_depth_of => k_is)
    (case l_depth_of => k_is)
    (case d_depth_of => k_is)
    (case k_depth_of => k_is)
    (case a_reverse_of => k_is)
    (case l_reverse_of => k_is)
    (case d_reverse_of => k_is)
    (case k_reverse_of => k_is)
    (case a_law => k_is)
    (case l_law => k_is)
    (case d_law => k_is)
    (case k_law => k_is)
    (case c_PUT => k_is)
    (case c_TAKE => k_is)
    (case c_PROP => k_is)
    (case c_UNPROP => k_is)
    (case z_max => k_is)
    (case z_list => k_is)
    (case z_reversed => k_is)
    (case z_len => k_is)
    (case z_range => k_is)
    (case z_int => k_is)
    (case z_tuple => k_is)
    (case z_repr => k_is)
