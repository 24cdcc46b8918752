import PyProof.Rows.All
import HandS.ForMost
import HandS.ForExc
import HandS.ExcInit
import HandS.Rev
import HandS.EndBits
import PyProof.ReprRoads
import PyProof.ReprLen
import PyProof.Rows.SeqMore
import HandS.Iter
import HandS.Text
import HandS.TupMul
import HandS.Conv
import HandS.Style
import HandS.SetBool
import HandS.More
import HandS.Strs
import HandS.Comp
import HandS.TupAny
import HandS.Deep
import PyProof.Rows.BitMore
import HandS.Zip
import HandS.SortInts
import HandS.IsInst
import HandS.Small
import KE.SortUse
import HandS.SortKw
import HandS.SortOrd
import HandS.Sort
import HandS.Property
import HandS.MakeKw
import KE.KOpsOwn
import KE.KFmtOwn
import KE.KOwn
import KE.KAnyBase
import KE.KCallOwn
import HandS.OwnEq
import PyProof.InstNe
import PyProof.Conv_bool
import PyProof.CallType
import HandS.ClsMeth
import HandS.List
import HandS.FStr
import PyProof.SumWalkG
import HandS.SetFor
import OpenK.KOwn
import PySem.Challenge.RW_nestprops_k02_rules_of_sets
import HandS.WideBits
import KE.SortData
import KE.DatumOrd
import PyProof.Rows.StrSplitJoin
import PyProof.Claim2
import PyProof.StrLawsRepr
import Wide.All
import OpenK.AllK
import Wide.FinOn
set_option Elab.async false
set_option linter.all false
set_option maxRecDepth 100000
set_option autoImplicit false
/-! Dw1: data over the hand layer: values as trees, what represents them, frames, states of slots. -/
namespace Dw
open PySem PySem.Spec PyProof.Rows L2

/-- a value as a tree -/
inductive D where
  | non
  | bl (b : Bool)
  | int (i : Int)
  | str (s : Str)
  | ref (a : Addr)
  | lst (xs : List D)
  | tup (xs : List D)
  | ins (C : Addr) (ns : List Str) (ds : List D)
  | exc (C : Addr) (ns : List Str) (ds : List D)

abbrev No := Addr → Prop
/-- the read part alone -/
def H00 : Hp := fun _ => none
def LAt (K : PySem.W.Frag) (N : No) (H : Hp) (a : Addr) (vs : List V) : Prop := (¬ N a ∧ Rd H a (.lst vs)) ∨ SqL K H00 a vs
def TAt (K : PySem.W.Frag) (N : No) (H : Hp) (a : Addr) (vs : List V) : Prop := (¬ N a ∧ Rd H a (.tup vs)) ∨ SqT K H00 a vs
theorem no_rd {a : Addr} {u : HO} : ¬ Rd H00 a u := by
  rintro (h | ⟨o, h⟩)
  · exact nomatch h
  · exact nomatch h
theorem sqL_up {K : PySem.W.Frag} {H : Hp} {a : Addr} {vs : List V} (h : SqL K H00 a vs) : SqL K H a vs := by
  rcases h with h | h
  · exact (no_rd h).elim
  · exact .inr h
theorem sqT_up {K : PySem.W.Frag} {H : Hp} {a : Addr} {vs : List V} (h : SqT K H00 a vs) : SqT K H a vs := by
  rcases h with h | h
  · exact (no_rd h).elim
  · exact .inr h
theorem LAt.sq {K : PySem.W.Frag} {N : No} {H : Hp} {a : Addr} {vs : List V} (h : LAt K N H a vs) : SqL K H a vs := by
  rcases h with h | h
  · exact .inl h.2
  · exact sqL_up h
theorem TAt.sq {K : PySem.W.Frag} {N : No} {H : Hp} {a : Addr} {vs : List V} (h : TAt K N H a vs) : SqT K H a vs := by
  rcases h with h | h
  · exact .inl h.2
  · exact sqT_up h
/-- what stands outside of N stays -/
def Sm (N : No) (H H' : Hp) : Prop := ∀ a o, ¬ N a → H a = some o → H' a = some o
theorem Sm.refl {N : No} {H : Hp} : Sm N H H := fun _ _ _ h => h
theorem Sm.trans {N : No} {H H1 H2 : Hp} (a : Sm N H H1) (b : Sm N H1 H2) : Sm N H H2 := fun x o n h => b x o n (a x o n h)
theorem Sm.wide {N M : No} {H H1 : Hp} (a : Sm N H H1) (h : ∀ x, N x → M x) : Sm M H H1 := fun x o n e => a x o (fun z => n (h x z)) e
theorem Sm.new {N : No} {H : Hp} {p : Addr} {o : HO} (h : H p = none) : Sm N H (upd H p o) := fun a u _ e => by
  rw [upd_ne (ne_of_none e h)]
  exact e
theorem Sm.rd {N : No} {H H' : Hp} {a : Addr} {u : HO} (e : Sm N H H') (n : ¬ N a) (h : Rd H a u) : Rd H' a u := by
  rcases h with h | ⟨o, h⟩
  · exact .inl (e a _ n h)
  · exact .inr ⟨o, e a _ n h⟩
theorem LAt.mono {K : PySem.W.Frag} {N : No} {H H' : Hp} {a : Addr} {vs : List V} (e : Sm N H H') (h : LAt K N H a vs) : LAt K N H' a vs := by
  rcases h with ⟨n, h⟩ | h
  · exact .inl ⟨n, e.rd n h⟩
  · exact .inr h
theorem TAt.mono {K : PySem.W.Frag} {N : No} {H H' : Hp} {a : Addr} {vs : List V} (e : Sm N H H') (h : TAt K N H a vs) : TAt K N H' a vs := by
  rcases h with ⟨n, h⟩ | h
  · exact .inl ⟨n, e.rd n h⟩
  · exact .inr h
theorem rd_tracked {H : Hp} {a p : Addr} {u : HO} (h : Rd H a u) (n : H p = none) : a ≠ p := by
  rcases h with h | ⟨o, h⟩
  · exact ne_of_none h n
  · exact ne_of_none h n

mutual
/-- the value v stands for the tree, by objects outside of N -/
def Rep (K : PySem.W.Frag) (N : No) (H : Hp) : D → V → Prop
  | .non, v => v = .non
  | .bl b, v => v = .bl b
  | .int i, v => v = .int i
  | .str s, v => v = .str s
  | .ref a, v => v = .ref a
  | .lst ds, v => ∃ a vs, v = .ref a ∧ LAt K N H a vs ∧ RepL K N H ds vs
  | .tup ds, v => ∃ a vs, v = .ref a ∧ TAt K N H a vs ∧ RepL K N H ds vs
  | .ins C ns ds, v => ∃ a dx vs, v = .ref a ∧ ¬ N a ∧ ¬ N dx ∧ H a = some (.ins C dx (ns.zip vs)) ∧ H dx = some (.own a) ∧ ns.length = ds.length ∧ RepL K N H ds vs
  | .exc C ns ds, v => ∃ a o vs, v = .ref a ∧ ¬ N a ∧ H a = some (exo a C o) ∧ ((o = none ∧ ns = []) ∨ ∃ dx, o = some dx ∧ ¬ N dx ∧ H dx = some (exd dx (ns.zip vs))) ∧ ns.length = ds.length ∧ RepL K N H ds vs
def RepL (K : PySem.W.Frag) (N : No) (H : Hp) : List D → List V → Prop
  | [], vs => vs = []
  | d :: ds, vs => ∃ v r, vs = v :: r ∧ Rep K N H d v ∧ RepL K N H ds r
end

mutual
theorem Rep.mono {K : PySem.W.Frag} {N : No} {H H' : Hp} (e : Sm N H H') : ∀ {d : D} {v : V}, Rep K N H d v → Rep K N H' d v
  | .non, _, h => h
  | .bl _, _, h => h
  | .int _, _, h => h
  | .str _, _, h => h
  | .ref _, _, h => h
  | .lst ds, v, h => by
    obtain ⟨a, vs, e1, h1, h2⟩ := h
    exact ⟨a, vs, e1, h1.mono e, RepL.mono e h2⟩
  | .tup ds, v, h => by
    obtain ⟨a, vs, e1, h1, h2⟩ := h
    exact ⟨a, vs, e1, h1.mono e, RepL.mono e h2⟩
  | .ins C ns ds, v, h => by
    obtain ⟨a, dx, vs, e1, n1, n2, h1, h2, hl, h3⟩ := h
    exact ⟨a, dx, vs, e1, n1, n2, e a _ n1 h1, e dx _ n2 h2, hl, RepL.mono e h3⟩
  | .exc C ns ds, v, h => by
    obtain ⟨a, o, vs, e1, n1, h1, h2, hl, h3⟩ := h
    exact ⟨a, o, vs, e1, n1, e a _ n1 h1, h2.imp id (fun ⟨dx, e2, n2, q⟩ => ⟨dx, e2, n2, e dx _ n2 q⟩), hl, RepL.mono e h3⟩
theorem RepL.mono {K : PySem.W.Frag} {N : No} {H H' : Hp} (e : Sm N H H') : ∀ {ds : List D} {vs : List V}, RepL K N H ds vs → RepL K N H' ds vs
  | [], _, h => h
  | d :: ds, vs, h => by
    obtain ⟨v, r, e1, h1, h2⟩ := h
    exact ⟨v, r, e1, Rep.mono e h1, RepL.mono e h2⟩
end
theorem LAt.gen {K : PySem.W.Frag} {N M : No} {H : Hp} {a : Addr} {vs : List V} (e : ∀ a, M a → N a ∨ H a = none) (h : LAt K N H a vs) : LAt K M H a vs := by
  rcases h with ⟨n, h⟩ | h
  · exact .inl ⟨fun q => (e a q).elim n fun z => rd_tracked h z rfl, h⟩
  · exact .inr h
theorem TAt.gen {K : PySem.W.Frag} {N M : No} {H : Hp} {a : Addr} {vs : List V} (e : ∀ a, M a → N a ∨ H a = none) (h : TAt K N H a vs) : TAt K M H a vs := by
  rcases h with ⟨n, h⟩ | h
  · exact .inl ⟨fun q => (e a q).elim n fun z => rd_tracked h z rfl, h⟩
  · exact .inr h
mutual
/-- another set is forbidden: of the first one, or where nothing stands -/
theorem Rep.gen {K : PySem.W.Frag} {N M : No} {H : Hp} (e : ∀ a, M a → N a ∨ H a = none) : ∀ {d : D} {v : V}, Rep K N H d v → Rep K M H d v
  | .non, _, h => h
  | .bl _, _, h => h
  | .int _, _, h => h
  | .str _, _, h => h
  | .ref _, _, h => h
  | .lst ds, v, h => by
    obtain ⟨a, vs, e1, h1, h2⟩ := h
    exact ⟨a, vs, e1, h1.gen e, RepL.gen e h2⟩
  | .tup ds, v, h => by
    obtain ⟨a, vs, e1, h1, h2⟩ := h
    exact ⟨a, vs, e1, h1.gen e, RepL.gen e h2⟩
  | .ins C ns ds, v, h => by
    obtain ⟨a, dx, vs, e1, n1, n2, h1, h2, hl, h3⟩ := h
    refine ⟨a, dx, vs, e1, fun z => (e a z).elim n1 fun q => ?_, fun z => (e dx z).elim n2 fun q => ?_, h1, h2, hl, RepL.gen e h3⟩
    · rw [h1] at q
      cases q
    · rw [h2] at q
      cases q
  | .exc C ns ds, v, h => by
    obtain ⟨a, o, vs, e1, n1, h1, h2, hl, h3⟩ := h
    refine ⟨a, o, vs, e1, fun z => (e a z).elim n1 fun q => ?_, h1, h2.imp id (fun ⟨dx, e2, n2, q⟩ => ⟨dx, e2, fun z => (e dx z).elim n2 fun y => ?_, q⟩), hl, RepL.gen e h3⟩
    · rw [h1] at q
      cases q
    · rw [q] at y
      cases y
theorem RepL.gen {K : PySem.W.Frag} {N M : No} {H : Hp} (e : ∀ a, M a → N a ∨ H a = none) : ∀ {ds : List D} {vs : List V}, RepL K N H ds vs → RepL K M H ds vs
  | [], _, h => h
  | d :: ds, vs, h => by
    obtain ⟨v, r, e1, h1, h2⟩ := h
    exact ⟨v, r, e1, Rep.gen e h1, RepL.gen e h2⟩
end
theorem Rep.less {K : PySem.W.Frag} {N M : No} {H : Hp} {d : D} {v : V} (e : ∀ a, M a → N a) (h : Rep K N H d v) : Rep K M H d v := h.gen fun a q => .inl (e a q)
theorem RepL.less {K : PySem.W.Frag} {N M : No} {H : Hp} {d : List D} {v : List V} (e : ∀ a, M a → N a) (h : RepL K N H d v) : RepL K M H d v := h.gen fun a q => .inl (e a q)
/-- N and one more -/
def plus (N : No) (p : Addr) : No := fun a => N a ∨ a = p
theorem Rep.more {K : PySem.W.Frag} {N : No} {H : Hp} {p : Addr} {d : D} {v : V} (n : H p = none) (h : Rep K N H d v) : Rep K (plus N p) H d v := h.gen fun a q => q.imp id fun z => by rw [z]; exact n
theorem RepL.more {K : PySem.W.Frag} {N : No} {H : Hp} {p : Addr} {d : List D} {v : List V} (n : H p = none) (h : RepL K N H d v) : RepL K (plus N p) H d v := h.gen fun a q => q.imp id fun z => by rw [z]; exact n

section
variable {K : PySem.W.Frag} {N : No} {H : Hp}
theorem RepL.length : ∀ {ds : List D} {vs : List V}, RepL K N H ds vs → ds.length = vs.length
  | [], _, h => by
    have e : _ = [] := h
    rw [e]
    rfl
  | d :: ds, vs, h => by
    obtain ⟨v, r, e1, h1, h2⟩ := h
    rw [e1, List.length_cons, List.length_cons, RepL.length h2]
theorem RepL.nil : RepL K N H [] [] := rfl
theorem RepL.cons {d : D} {ds : List D} {v : V} {vs : List V} (h : Rep K N H d v) (t : RepL K N H ds vs) : RepL K N H (d :: ds) (v :: vs) := ⟨v, vs, rfl, h, t⟩
theorem RepL.one {d : D} {v : V} (h : Rep K N H d v) : RepL K N H [d] [v] := .cons h .nil
theorem RepL.append : ∀ {ds es : List D} {vs ws : List V}, RepL K N H ds vs → RepL K N H es ws → RepL K N H (ds ++ es) (vs ++ ws)
  | [], es, vs, ws, h, g => by
    have e : vs = [] := h
    rw [e]
    exact g
  | d :: ds, es, vs, ws, h, g => by
    obtain ⟨v, r, e1, h1, h2⟩ := h
    subst e1
    exact ⟨v, r ++ ws, rfl, h1, RepL.append h2 g⟩
theorem RepL.get : ∀ {ds : List D} {vs : List V} {i : Nat} {d : D}, RepL K N H ds vs → ds[i]? = some d → ∃ v, vs[i]? = some v ∧ Rep K N H d v
  | [], _, i, d, _, g => by simp at g
  | e :: ds, vs, 0, d, h, g => by
    obtain ⟨v, r, e1, h1, h2⟩ := h
    subst e1
    have q : e = d := by simpa using g
    subst q
    exact ⟨v, rfl, h1⟩
  | e :: ds, vs, i + 1, d, h, g => by
    obtain ⟨v, r, e1, h1, h2⟩ := h
    subst e1
    obtain ⟨u, q1, q2⟩ := RepL.get (i := i) (d := d) h2 (by simpa using g)
    exact ⟨u, by simpa using q1, q2⟩
theorem RepL.getV {ds : List D} {vs : List V} {i : Nat} {v : V} (h : RepL K N H ds vs) (g : vs[i]? = some v) : ∃ d, ds[i]? = some d ∧ Rep K N H d v := by
  have hi : i < vs.length := (List.getElem?_eq_some_iff.mp g).1
  have hj : i < ds.length := by rw [h.length]; exact hi
  obtain ⟨u, q1, q2⟩ := h.get (List.getElem?_eq_getElem hj)
  rw [g] at q1
  cases q1
  exact ⟨_, List.getElem?_eq_getElem hj, q2⟩
theorem RepL.take : ∀ {ds : List D} {vs : List V} (n : Nat), RepL K N H ds vs → RepL K N H (ds.take n) (vs.take n)
  | ds, vs, 0, h => by
    rw [List.take_zero, List.take_zero]
    exact .nil
  | [], vs, n + 1, h => by
    have e : vs = [] := h
    rw [e]
    exact .nil
  | d :: ds, vs, n + 1, h => by
    obtain ⟨v, r, e1, h1, h2⟩ := h
    subst e1
    exact .cons h1 (RepL.take n h2)
theorem RepL.drop : ∀ {ds : List D} {vs : List V} (n : Nat), RepL K N H ds vs → RepL K N H (ds.drop n) (vs.drop n)
  | ds, vs, 0, h => h
  | [], vs, n + 1, h => by
    have e : vs = [] := h
    rw [e]
    exact .nil
  | d :: ds, vs, n + 1, h => by
    obtain ⟨v, r, e1, h1, h2⟩ := h
    subst e1
    exact RepL.drop n h2
theorem RepL.erase : ∀ {ds : List D} {vs : List V} (n : Nat), RepL K N H ds vs → RepL K N H (ds.eraseIdx n) (vs.eraseIdx n)
  | [], vs, n, h => by
    have e : vs = [] := h
    rw [e]
    exact .nil
  | d :: ds, vs, 0, h => by
    obtain ⟨v, r, e1, h1, h2⟩ := h
    subst e1
    exact h2
  | d :: ds, vs, n + 1, h => by
    obtain ⟨v, r, e1, h1, h2⟩ := h
    subst e1
    exact .cons h1 (RepL.erase n h2)
theorem RepL.reverse : ∀ {ds : List D} {vs : List V}, RepL K N H ds vs → RepL K N H ds.reverse vs.reverse
  | [], vs, h => by
    have e : vs = [] := h
    rw [e]
    exact .nil
  | d :: ds, vs, h => by
    obtain ⟨v, r, e1, h1, h2⟩ := h
    subst e1
    rw [List.reverse_cons, List.reverse_cons]
    exact (RepL.reverse h2).append (.one h1)
theorem repL_ints : ∀ {ns : List Int} {vs : List V}, RepL K N H (ns.map D.int) vs → vs = ns.map V.int
  | [], vs, h => h
  | n :: ns, vs, h => by
    obtain ⟨v, r, e1, h1, h2⟩ := h
    have e2 : v = .int n := h1
    rw [e1, e2, repL_ints h2]
    rfl
theorem repL_of_ints : ∀ (ns : List Int), RepL K N H (ns.map D.int) (ns.map V.int)
  | [] => rfl
  | n :: ns => ⟨.int n, ns.map V.int, rfl, rfl, repL_of_ints ns⟩
theorem repL_strs : ∀ {ns : List Str} {vs : List V}, RepL K N H (ns.map D.str) vs → vs = ns.map V.str
  | [], vs, h => h
  | n :: ns, vs, h => by
    obtain ⟨v, r, e1, h1, h2⟩ := h
    have e2 : v = .str n := h1
    rw [e1, e2, repL_strs h2]
    rfl
theorem repL_of_strs : ∀ (ns : List Str), RepL K N H (ns.map D.str) (ns.map V.str)
  | [] => rfl
  | n :: ns => ⟨.str n, ns.map V.str, rfl, rfl, repL_of_strs ns⟩
theorem repL_bls : ∀ {ns : List Bool} {vs : List V}, RepL K N H (ns.map D.bl) vs → vs = ns.map V.bl
  | [], vs, h => h
  | n :: ns, vs, h => by
    obtain ⟨v, r, e1, h1, h2⟩ := h
    have e2 : v = .bl n := h1
    rw [e1, e2, repL_bls h2]
    rfl
end
end Dw

namespace Dw
open PySem PySem.Spec PyProof.Rows L2

/-- what is fixed through a def: the read part, the heap at the entry, what the def may turn (F0, kept by I), what its results must not hold (F) -/
structure Md where
  K : PySem.W.Frag
  H0 : Hp
  F0 : No
  F : No
  I : Hp → Prop
  f0 : ∀ a, F0 a → F a
  tr : ∀ a, F a → H0 a ≠ none
  st : ∀ H H', I H → (∀ a o, F0 a → H a = some o → H' a = some o) → I H'
  tk : ∀ H a, I H → F0 a → H a ≠ none

/-- a slot: unknown, data, a list of one's own at p -/
inductive Sl where
  | un
  | d (x : D)
  | mu (p : Addr) (xs : List D)

/-- forbidden: F and one's own lists -/
def nf (M : Md) (O : List Addr) : No := fun a => M.F a ∨ a ∈ O
def SlR (M : Md) (O : List Addr) (H : Hp) (v : Option (Option V)) : Sl → Prop
  | .un => True
  | .d x => ∃ u, v = some (some u) ∧ Rep M.K (nf M O) H x u
  | .mu p xs => v = some (some (.ref p)) ∧ p ∈ O ∧ ∃ vs, H p = some (.lst vs) ∧ RepL M.K (nf M O) H xs vs

structure Rp (M : Md) (O : List Addr) (r : List Sl) (σ : L2.St) (H : Hp) : Prop where
  sm : Sm M.F0 M.H0 H
  inv : M.I H
  own : ∀ p ∈ O, M.H0 p = none ∧ H p ≠ none
  nod : O.Nodup
  len : σ.length = r.length
  slot : ∀ (i : Nat) (s : Sl), r[i]? = some s → SlR M O H σ[i]? s
  one : ∀ (i j : Nat) (p : Addr) (xs ys : List D), r[i]? = some (.mu p xs) → r[j]? = some (.mu p ys) → i = j

theorem nf0 {M : Md} {O : List Addr} : ∀ a, M.F0 a → nf M O a := fun a h => .inl (M.f0 a h)
theorem Rep.step {M : Md} {O : List Addr} {H H' : Hp} {d : D} {v : V} (e : Sm M.F0 H H') (h : Rep M.K (nf M O) H d v) : Rep M.K (nf M O) H' d v := h.mono (e.wide nf0)
theorem RepL.step {M : Md} {O : List Addr} {H H' : Hp} {d : List D} {v : List V} (e : Sm M.F0 H H') (h : RepL M.K (nf M O) H d v) : RepL M.K (nf M O) H' d v := h.mono (e.wide nf0)

/-- an expression gives data of which k holds; slots and own lists stay -/
def De (M : Md) (te : TE) (O : List Addr) (r : List Sl) (k : D → Prop) : Prop :=
  ∀ σ H (Q : VK), Rp M O r σ H → (∀ v H' d, Rp M O r σ H' → Sm M.F0 H H' → Rep M.K (nf M O) H' d v → k d → Q v H') → te σ H Q
def DT (M : Md) (tt : TT) (O : List Addr) (r : List Sl) (k : Bool → Prop) : Prop :=
  ∀ σ H (Q : Bool → Hp → Prop), Rp M O r σ H → (∀ b H', Rp M O r σ H' → Sm M.F0 H H' → k b → Q b H') → tt σ H Q
def DA (M : Md) (ta : TA) (O : List Addr) (r : List Sl) (k : List D → Prop) : Prop :=
  ∀ σ H (Q : List V → Hp → Prop), Rp M O r σ H → (∀ vs H' ds, Rp M O r σ H' → Sm M.F0 H H' → RepL M.K (nf M O) H' ds vs → k ds → Q vs H') → ta σ H Q
/-- what is wanted behind a statement -/
structure Kn where
  nx : List Addr → List Sl → Prop
  rt : D → Prop
  bk : List Addr → List Sl → Prop := fun _ _ => False
  ct : List Addr → List Sl → Prop := fun _ _ => False
/-- what a block may turn: the footprint, own lists -/
def st (M : Md) (O : List Addr) : No := fun a => M.F0 a ∨ a ∈ O
/-- .. and it may have new ones -/
def Stp (M : Md) (O : List Addr) (H : Hp) (O' : List Addr) (H' : Hp) : Prop := Sm (st M O) H H' ∧ (∀ p ∈ O', p ∈ O ∨ H p = none) ∧ ∀ a, H a ≠ none → H' a ≠ none
structure EndsOk (M : Md) (O : List Addr) (H : Hp) (E : Kn) (Z : Ends) : Prop where
  nx : ∀ O1 r σ H1, Rp M O1 r σ H1 → Stp M O H O1 H1 → E.nx O1 r → Z.nx σ H1
  rt : ∀ v H d, Sm M.F0 M.H0 H → M.I H → Rep M.K M.F H d v → E.rt d → Z.rt v H
  bk : ∀ O1 r σ H1, Rp M O1 r σ H1 → Stp M O H O1 H1 → E.bk O1 r → Z.bk σ H1
  ct : ∀ O1 r σ H1, Rp M O1 r σ H1 → Stp M O H O1 H1 → E.ct O1 r → Z.ct σ H1
def DS (M : Md) (ts : TS) (O : List Addr) (r : List Sl) (E : Kn) : Prop :=
  ∀ σ H Z, Rp M O r σ H → EndsOk M O H E Z → ts Z σ H

section
variable {M : Md} {O : List Addr} {r : List Sl} {σ : L2.St} {H H' : Hp}
theorem new_no (R : Rp M O r σ H) {p : Addr} (n : H p = none) : ¬ nf M O p := by
  rintro (h | h)
  · by_cases q : M.F0 p
    · exact M.tk H p R.inv q n
    · cases e : M.H0 p with
      | none => exact M.tr p h e
      | some o =>
        have := R.sm p o q e
        rw [n] at this
        cases this
  · exact (R.own p h).2 n
theorem nf_tr (R : Rp M O r σ H) : ∀ a, nf M O a → H a ≠ none := fun a h n => new_no R n h
/-- the heap grows or the def's own footprint turns; own lists stay -/
theorem Rp.step (R : Rp M O r σ H) (e : Sm M.F0 H H') (i : M.I H') : Rp M O r σ H' := by
  have nO : ∀ p ∈ O, ¬ M.F0 p := fun p hp z => M.tr p (M.f0 p z) (R.own p hp).1
  refine ⟨R.sm.trans e, i, fun p hp => ⟨(R.own p hp).1, ?_⟩, R.nod, R.len, fun j s hs => ?_, R.one⟩
  · cases q : H p with
    | none => exact absurd q (R.own p hp).2
    | some o =>
      rw [e p o (nO p hp) q]
      exact fun z => nomatch z
  · have h := R.slot j s hs
    cases s with
    | un => trivial
    | d x =>
      obtain ⟨u, e1, h1⟩ := h
      exact ⟨u, e1, h1.mono (e.wide fun a z => .inl (M.f0 a z))⟩
    | mu p xs =>
      obtain ⟨e1, hp, vs, h1, h2⟩ := h
      exact ⟨e1, hp, vs, e p _ (nO p hp) h1, h2.mono (e.wide fun a z => .inl (M.f0 a z))⟩
theorem Rp.grow (R : Rp M O r σ H) (e : Sm (fun _ => False) H H') : Rp M O r σ H' :=
  R.step (e.wide fun _ z => z.elim) (M.st H H' R.inv fun a o _ h => e a o (fun z => z) h)
theorem sm_0 {N : No} (e : Sm (fun _ => False) H H') : Sm N H H' := e.wide fun _ z => z.elim
theorem sm_new {p : Addr} {o : HO} (n : H p = none) : Sm (fun _ => False) H (upd H p o) := Sm.new n
theorem sm_st (e : Sm M.F0 H H') : Sm (st M O) H H' := e.wide fun _ z => .inl z

/-! ### expressions -/
variable {k : D → Prop} {ta tb te : TE} {tt : TT} {tl : TA}
theorem De.imp {k' : D → Prop} (h : De M te O r k) (i : ∀ d, k d → k' d) : De M te O r k' := fun σ H Q R z => h σ H Q R fun v H1 d R1 e1 p1 q1 => z v H1 d R1 e1 p1 (i d q1)
theorem DT.imp {k k' : Bool → Prop} (h : DT M tt O r k) (i : ∀ d, k d → k' d) : DT M tt O r k' := fun σ H Q R z => h σ H Q R fun b H1 R1 e1 q1 => z b H1 R1 e1 (i b q1)
theorem DA.imp {k k' : List D → Prop} (h : DA M tl O r k) (i : ∀ d, k d → k' d) : DA M tl O r k' := fun σ H Q R z => h σ H Q R fun v H1 d R1 e1 p1 q1 => z v H1 d R1 e1 p1 (i d q1)
theorem de_var {i : Nat} {x : D} (h : r[i]? = some (.d x)) (q : k x) : De M (tVar i) O r k := fun σ H Q R z => by
  obtain ⟨u, e, h1⟩ := R.slot i _ h
  exact ⟨u, e, z u H x R .refl h1 q⟩
theorem de_int {i : Int} (q : k (.int i)) : De M (tC (.int i)) O r k := fun σ H Q R z => z (.int i) H (.int i) R .refl rfl q
theorem de_bl {i : Bool} (q : k (.bl i)) : De M (tC (.bl i)) O r k := fun σ H Q R z => z (.bl i) H (.bl i) R .refl rfl q
theorem de_str {i : Str} (q : k (.str i)) : De M (tC (.str i)) O r k := fun σ H Q R z => z (.str i) H (.str i) R .refl rfl q
theorem de_non (q : k .non) : De M (tC .non) O r k := fun σ H Q R z => z .non H .non R .refl rfl q
/-- a constant of the module -/
theorem de_c {v : V} (d : D) (h : ∀ N H, Rep M.K N H d v) (q : k d) : De M (tC v) O r k := fun σ H Q R z => z v H d R .refl (h _ _) q
/-- two operands, then what the operator asks of the values -/
theorem de_op {f : R2} (h : De M ta O r fun x => De M tb O r fun y => ∀ σ H v u (Q : VK), Rp M O r σ H → Rep M.K (nf M O) H x v → Rep M.K (nf M O) H y u →
    (∀ w H' d, Rp M O r σ H' → Sm M.F0 H H' → Rep M.K (nf M O) H' d w → k d → Q w H') → f v u H Q) : De M (tOp f ta tb) O r k := fun σ H Q R z => by
  refine h σ H _ R fun v H1 x R1 e1 p1 h1 => ?_
  refine h1 σ H1 _ R1 fun u H2 y R2 e2 p2 h2 => ?_
  exact h2 σ H2 v u Q R2 (p1.step e2) p2 fun w H3 d R3 e3 p3 q3 => z w H3 d R3 ((e1.trans e2).trans e3) p3 q3
theorem de_op2 {f : R2} {C : D → D → Prop} (h : De M ta O r fun x => De M tb O r fun y => C x y) (hc : ∀ x y, C x y → ∀ σ H v u (Q : VK), Rp M O r σ H → Rep M.K (nf M O) H x v → Rep M.K (nf M O) H y u →
    (∀ w H' d, Rp M O r σ H' → Sm M.F0 H H' → Rep M.K (nf M O) H' d w → k d → Q w H') → f v u H Q) : De M (tOp f ta tb) O r k :=
  de_op (h.imp fun x h1 => h1.imp fun y h2 => hc x y h2)
theorem de_rI0 {g : Int → Int → V} (G : Int → Int → D) (hg : ∀ i j N H, Rep M.K N H (G i j) (g i j)) (h : De M ta O r fun x => De M tb O r fun y => ∃ i j, x = .int i ∧ y = .int j ∧ k (G i j)) : De M (tOp (rI0 g) ta tb) O r k := de_op2 h fun x y c σ H v u Q R pv pu z => by
  obtain ⟨i, j, rfl, rfl, q⟩ := c
  exact ⟨i, j, pv, pu, z _ H _ R .refl (hg i j _ _) q⟩
theorem de_rI {C : Int → Int → Prop} {g : Int → Int → V} (G : Int → Int → D) (hg : ∀ i j N H, Rep M.K N H (G i j) (g i j)) (h : De M ta O r fun x => De M tb O r fun y => ∃ i j, x = .int i ∧ y = .int j ∧ C i j ∧ k (G i j)) : De M (tOp (rI C g) ta tb) O r k := de_op2 h fun x y c σ H v u Q R pv pu z => by
  obtain ⟨i, j, rfl, rfl, c, q⟩ := c
  exact ⟨i, j, pv, pu, c, z _ H _ R .refl (hg i j _ _) q⟩
theorem de_intI {g : Int → Int → Int} (h : De M ta O r fun x => De M tb O r fun y => ∃ i j, x = .int i ∧ y = .int j ∧ k (.int (g i j))) : De M (tOp (rI0 fun i j => .int (g i j)) ta tb) O r k := de_rI0 (fun i j => .int (g i j)) (fun _ _ _ _ => rfl) h
theorem de_intB {g : Int → Int → Bool} (h : De M ta O r fun x => De M tb O r fun y => ∃ i j, x = .int i ∧ y = .int j ∧ k (.bl (g i j))) : De M (tOp (rI0 fun i j => .bl (g i j)) ta tb) O r k := de_rI0 (fun i j => .bl (g i j)) (fun _ _ _ _ => rfl) h
theorem de_intC {C : Int → Int → Prop} {g : Int → Int → Int} (h : De M ta O r fun x => De M tb O r fun y => ∃ i j, x = .int i ∧ y = .int j ∧ C i j ∧ k (.int (g i j))) : De M (tOp (rI C fun i j => .int (g i j)) ta tb) O r k := de_rI (fun i j => .int (g i j)) (fun _ _ _ _ => rfl) h
/-- scalars compared -/
def D.v : D → Option V
  | .non => some .non
  | .bl b => some (.bl b)
  | .int i => some (.int i)
  | .str s => some (.str s)
  | _ => none
theorem D.v_rep {K : PySem.W.Frag} {N : No} {H : Hp} {d : D} {x v : V} (h : d.v = some x) (p : Rep K N H d v) : v = x := by
  cases d <;> first
    | (cases h; exact p)
    | cases h
theorem de_eq (h : De M ta O r fun x => De M tb O r fun y => ∃ a b, x.v = some a ∧ y.v = some b ∧ scal a b = true ∧ k (.bl (decide (a = b)))) : De M (tOp rEq ta tb) O r k := de_op2 h fun x y c σ H v u Q R pv pu z => by
  obtain ⟨a, b, ha, hb, hs, q⟩ := c
  rw [D.v_rep ha pv, D.v_rep hb pu]
  exact ⟨hs, z _ H (.bl (decide (a = b))) R .refl rfl q⟩
theorem de_ne (h : De M ta O r fun x => De M tb O r fun y => ∃ a b, x.v = some a ∧ y.v = some b ∧ scal a b = true ∧ k (.bl (!decide (a = b)))) : De M (tOp rNe ta tb) O r k := de_op2 h fun x y c σ H v u Q R pv pu z => by
  obtain ⟨a, b, ha, hb, hs, q⟩ := c
  rw [D.v_rep ha pv, D.v_rep hb pu]
  exact ⟨hs, z _ H (.bl (!decide (a = b))) R .refl rfl q⟩
theorem de_un {g : Int → V} (G : Int → D) (hg : ∀ i N H, Rep M.K N H (G i) (g i)) (h : De M ta O r fun x => ∃ i, x = .int i ∧ k (G i)) : De M (tUn (rU g) ta) O r k := fun σ H Q R z => by
  refine h σ H _ R fun v H1 x R1 e1 p1 h1 => ?_
  obtain ⟨i, rfl, q⟩ := h1
  exact ⟨i, p1, z _ H1 _ R1 e1 (hg i _ _) q⟩

/-! ### arguments, displays -/
theorem da_nil {k : List D → Prop} (q : k []) : DA M tNil O r k := fun σ H Q R z => z [] H [] R .refl .nil q
theorem da_cons {k : List D → Prop} (h : De M te O r fun x => DA M tl O r fun xs => k (x :: xs)) : DA M (tCons te tl) O r k := fun σ H Q R z => by
  refine h σ H _ R fun v H1 x R1 e1 p1 h1 => ?_
  exact h1 σ H1 _ R1 fun vs H2 xs R2 e2 p2 q2 => z (v :: vs) H2 (x :: xs) R2 (e1.trans e2) (.cons (p1.step e2) p2) q2
theorem rep_lst (R : Rp M O r σ H) {p : Addr} {ds : List D} {vs : List V} (hp : H p = none) (h : RepL M.K (nf M O) H ds vs) : Rep M.K (nf M O) (upd H p (.lst vs)) (.lst ds) (.ref p) :=
  ⟨p, vs, rfl, .inl ⟨new_no R hp, .inl upd_same⟩, h.step (sm_0 (sm_new hp))⟩
theorem rep_tup (R : Rp M O r σ H) {p : Addr} {ds : List D} {vs : List V} (hp : H p = none) (h : RepL M.K (nf M O) H ds vs) : Rep M.K (nf M O) (upd H p (.tup vs)) (.tup ds) (.ref p) :=
  ⟨p, vs, rfl, .inl ⟨new_no R hp, .inl upd_same⟩, h.step (sm_0 (sm_new hp))⟩
theorem de_lst (h : DA M tl O r fun ds => ds.length ≤ sizeLine ∧ k (.lst ds)) : De M (tLst tl) O r k := fun σ H Q R z => by
  refine h σ H _ R fun vs H1 ds R1 e1 p1 q => ⟨by rw [← p1.length]; exact q.1, fun p hp => ?_⟩
  exact z _ _ (.lst ds) (R1.grow (sm_new hp)) (e1.trans (sm_0 (sm_new hp))) (rep_lst R1 hp p1) q.2
theorem de_tup (h : DA M tl O r fun ds => ds.length ≤ sizeLine ∧ k (.tup ds)) : De M (tTup tl) O r k := fun σ H Q R z => by
  refine h σ H _ R fun vs H1 ds R1 e1 p1 q => ⟨by rw [← p1.length]; exact q.1, fun p hp => ?_⟩
  exact z _ _ (.tup ds) (R1.grow (sm_new hp)) (e1.trans (sm_0 (sm_new hp))) (rep_tup R1 hp p1) q.2

/-! ### tests -/
variable {kt : Bool → Prop} {tu : TT}
theorem dt_test (h : De M te O r fun x => ∃ b, x = .bl b ∧ kt b) : DT M (tTest te) O r kt := fun σ H Q R z => h σ H _ R fun v H1 x R1 e1 p1 h1 => by
  obtain ⟨b, rfl, q⟩ := h1
  exact ⟨b, p1, z b H1 R1 e1 q⟩
theorem dt_B (h : De M te O r fun x => ∃ b, x = .bl b ∧ kt b) : DT M (tB te) O r kt := fun σ H Q R z => h σ H _ R fun v H1 x R1 e1 p1 h1 => by
  obtain ⟨b, rfl, q⟩ := h1
  exact ⟨b, p1, z b H1 R1 e1 q⟩
theorem dt_and (h : DT M tt O r fun b => if b = true then DT M tu O r kt else kt false) : DT M (tAnd tt tu) O r kt := fun σ H Q R z => h σ H _ R fun b H1 R1 e1 q1 => by
  cases b with
  | true =>
    show tu σ H1 Q
    exact q1 σ H1 Q R1 fun b H2 R2 e2 q2 => z b H2 R2 (e1.trans e2) q2
  | false =>
    show Q false H1
    exact z false H1 R1 e1 q1
theorem dt_or (h : DT M tt O r fun b => if b = true then kt true else DT M tu O r kt) : DT M (tOr tt tu) O r kt := fun σ H Q R z => h σ H _ R fun b H1 R1 e1 q1 => by
  cases b with
  | false =>
    show tu σ H1 Q
    exact q1 σ H1 Q R1 fun b H2 R2 e2 q2 => z b H2 R2 (e1.trans e2) q2
  | true =>
    show Q true H1
    exact z true H1 R1 e1 q1
theorem dt_not (h : DT M tt O r fun b => kt (!b)) : DT M (tNot tt) O r kt := fun σ H Q R z => h σ H _ R fun b H1 R1 e1 q1 => z _ H1 R1 e1 q1
theorem de_if (h : DT M tt O r fun b => if b = true then De M ta O r k else De M tb O r k) : De M (tIf tt ta tb) O r k := fun σ H Q R z => h σ H _ R fun b H1 R1 e1 q1 => by
  cases b with
  | true =>
    show ta σ H1 Q
    exact q1 σ H1 Q R1 fun v H2 d R2 e2 p2 q2 => z v H2 d R2 (e1.trans e2) p2 q2
  | false =>
    show tb σ H1 Q
    exact q1 σ H1 Q R1 fun v H2 d R2 e2 p2 q2 => z v H2 d R2 (e1.trans e2) p2 q2
theorem de_andV (h : De M ta O r fun x => ∃ b, x = .bl b ∧ if b = true then De M tb O r k else k (.bl false)) : De M (tAndV ta tb) O r k := fun σ H Q R z => h σ H _ R fun v H1 x R1 e1 p1 h1 => by
  obtain ⟨b, rfl, q⟩ := h1
  refine ⟨b, p1, ?_⟩
  cases b with
  | true => exact q σ H1 Q R1 fun v H2 d R2 e2 p2 q2 => z v H2 d R2 (e1.trans e2) p2 q2
  | false => exact z (.bl false) H1 (.bl false) R1 e1 rfl q
theorem de_orV (h : De M ta O r fun x => ∃ b, x = .bl b ∧ if b = true then k (.bl true) else De M tb O r k) : De M (tOrV ta tb) O r k := fun σ H Q R z => h σ H _ R fun v H1 x R1 e1 p1 h1 => by
  obtain ⟨b, rfl, q⟩ := h1
  refine ⟨b, p1, ?_⟩
  cases b with
  | false => exact q σ H1 Q R1 fun v H2 d R2 e2 p2 q2 => z v H2 d R2 (e1.trans e2) p2 q2
  | true => exact z (.bl true) H1 (.bl true) R1 e1 rfl q
theorem de_notV (h : De M ta O r fun x => ∃ b, x = .bl b ∧ k (.bl (!b))) : De M (tNotV ta) O r k := fun σ H Q R z => h σ H _ R fun v H1 x R1 e1 p1 h1 => by
  obtain ⟨b, rfl, q⟩ := h1
  exact ⟨b, p1, z _ H1 (.bl (!b)) R1 e1 rfl q⟩

/-! ### statements -/
theorem Stp.refl : Stp M O H O H := ⟨.refl, fun _ h => .inl h, fun _ h => h⟩
theorem Rp.stays (R' : Rp M O r σ H') (e : Sm (st M O) H H') : ∀ a, H a ≠ none → H' a ≠ none := fun a h => by
  by_cases q : st M O a
  · rcases q with q | q
    · exact M.tk H' a R'.inv q
    · exact (R'.own a q).2
  · cases e1 : H a with
    | none => exact absurd e1 h
    | some o =>
      rw [e a o q e1]
      exact fun z => nomatch z
theorem Rp.stp (R' : Rp M O r σ H') (e : Sm M.F0 H H') : Stp M O H O H' := ⟨sm_st e, fun _ h => .inl h, R'.stays (sm_st e)⟩
theorem Stp.trans {O1 O2 : List Addr} {H1 H2 : Hp} (i : M.I H1) (a : Stp M O H O1 H1) (b : Stp M O1 H1 O2 H2) : Stp M O H O2 H2 := by
  refine ⟨fun x o n e => b.1 x o (fun z => ?_) (a.1 x o n e), fun p hp => ?_, fun x h => b.2.2 x (a.2.2 x h)⟩
  · rcases z with z | z
    · exact n (.inl z)
    · rcases a.2.1 x z with q | q
      · exact n (.inr q)
      · rw [e] at q
        cases q
  · rcases b.2.1 p hp with q | q
    · exact a.2.1 p q
    · right
      cases e : H p with
      | none => rfl
      | some o => exact absurd q (a.2.2 p (by rw [e]; exact fun z => nomatch z))
variable {E : Kn} {ts tz : TS}
/-- the ends, told from a later state -/
theorem EndsOk.later {Z : Ends} {O1 : List Addr} {H1 : Hp} (i : M.I H1) (z : EndsOk M O H E Z) (a : Stp M O H O1 H1) : EndsOk M O1 H1 E Z :=
  ⟨fun O2 r σ H2 R b q => z.nx O2 r σ H2 R (a.trans i b) q, z.rt, fun O2 r σ H2 R b q => z.bk O2 r σ H2 R (a.trans i b) q, fun O2 r σ H2 R b q => z.ct O2 r σ H2 R (a.trans i b) q⟩
theorem ds_seq (h : DS M ts O r { E with nx := fun O1 r1 => DS M tz O1 r1 E }) : DS M (tSeq ts tz) O r E := fun σ H Z R z =>
  h σ H _ R ⟨fun O1 r1 σ1 H1 R1 a q => q σ1 H1 Z R1 (z.later R1.inv a), z.rt, z.bk, z.ct⟩
theorem ds_next (h : E.nx O r) : DS M tNext O r E := fun σ H Z R z => z.nx O r σ H R .refl h
theorem ds_ret (h : De M te O r E.rt) : DS M (tRet te) O r E := fun σ H Z R z =>
  h σ H _ R fun v H1 d R1 e1 p1 q => z.rt v H1 d R1.sm R1.inv (p1.less fun a h => .inl h) q
theorem ds_retN (h : E.rt .non) : DS M tRetN O r E := fun σ H Z R z => z.rt .non H .non R.sm R.inv rfl h
theorem ds_if (h : DT M tt O r fun b => if b = true then DS M ts O r E else DS M tz O r E) : DS M (tIfS tt ts tz) O r E := fun σ H Z R z => h σ H _ R fun b H1 R1 e1 q1 => by
  cases b with
  | true =>
    show ts Z σ H1
    exact q1 σ H1 Z R1 (z.later R1.inv (R1.stp e1))
  | false =>
    show tz Z σ H1
    exact q1 σ H1 Z R1 (z.later R1.inv (R1.stp e1))
theorem ds_drop (h : De M te O r fun _ => E.nx O r) : DS M (tDrop te) O r E := fun σ H Z R z => h σ H _ R fun v H1 d R1 e1 p1 q => z.nx O r σ H1 R1 (R1.stp e1) q
theorem ds_break (h : E.bk O r) : DS M tBreak O r E := fun σ H Z R z => z.bk O r σ H R .refl h
theorem ds_cont (h : E.ct O r) : DS M tCont O r E := fun σ H Z R z => z.ct O r σ H R .refl h
/-- a slot told anew -/
theorem Rp.set {i : Nat} {v : V} {s : Sl} (R : Rp M O r σ H) (hs : SlR M O H (some (some v)) s) (hm : ∀ p xs, s = .mu p xs → ∀ (j : Nat) (ys : List D), j ≠ i → r[j]? ≠ some (.mu p ys)) : Rp M O (r.set i s) (σ.set i (some v)) H := by
  refine ⟨R.sm, R.inv, R.own, R.nod, by rw [List.length_set, List.length_set]; exact R.len, fun j t ht => ?_, fun j l p xs ys h1 h2 => ?_⟩
  · by_cases e : i = j
    · subst e
      by_cases hi : i < r.length
      · rw [List.getElem?_set_self hi] at ht
        cases ht
        rw [List.getElem?_set_self (by rw [R.len]; exact hi)]
        exact hs
      · rw [List.getElem?_eq_none (by rw [List.length_set]; omega)] at ht
        cases ht
    · rw [List.getElem?_set_ne e] at ht
      rw [List.getElem?_set_ne e]
      exact R.slot j t ht
  · by_cases e1 : i = j
    · subst e1
      by_cases e2 : i = l
      · exact e2
      · rw [List.getElem?_set_ne e2] at h2
        have hi : i < r.length := by
          refine Nat.lt_of_not_le fun q => ?_
          rw [List.getElem?_eq_none (by rw [List.length_set]; exact q)] at h1
          cases h1
        rw [List.getElem?_set_self hi] at h1
        cases h1
        exact absurd h2 (hm p xs rfl l ys fun z => e2 z.symm)
    · rw [List.getElem?_set_ne e1] at h1
      by_cases e2 : i = l
      · subst e2
        have hi : i < r.length := by
          refine Nat.lt_of_not_le fun q => ?_
          rw [List.getElem?_eq_none (by rw [List.length_set]; exact q)] at h2
          cases h2
        rw [List.getElem?_set_self hi] at h2
        cases h2
        exact absurd h1 (hm p ys rfl j xs fun z => e1 z.symm)
      · rw [List.getElem?_set_ne e2] at h2
        exact R.one j l p xs ys h1 h2
theorem ds_asg {i : Nat} (h : De M te O r fun d => E.nx O (r.set i (.d d))) : DS M (tAsg te (gName i)) O r E := fun σ H Z R z =>
  h σ H _ R fun v H1 d R1 e1 p1 q => z.nx O _ _ H1 (R1.set (s := .d d) ⟨v, rfl, p1⟩ (fun p xs e => nomatch e)) (R1.stp e1) q
theorem plus_of {p : Addr} : ∀ a, nf M (p :: O) a → plus (nf M O) p a := fun a ha => by
  rcases ha with ha | ha
  · exact .inl (.inl ha)
  · rcases List.mem_cons.mp ha with rfl | ha
    · exact .inr rfl
    · exact .inl (.inr ha)
theorem RepL.own1 {p : Addr} {o : HO} {ds : List D} {vs : List V} (hp : H p = none) (h : RepL M.K (nf M O) H ds vs) : RepL M.K (nf M (p :: O)) (upd H p o) ds vs := ((h.more hp).less plus_of).mono ((sm_new hp).wide fun _ z => z.elim)
theorem Rep.own1 {p : Addr} {o : HO} {d : D} {v : V} (hp : H p = none) (h : Rep M.K (nf M O) H d v) : Rep M.K (nf M (p :: O)) (upd H p o) d v := ((h.more hp).less plus_of).mono ((sm_new hp).wide fun _ z => z.elim)
theorem free0 (R : Rp M O r σ H) {p : Addr} (hp : H p = none) : M.H0 p = none := by
  cases e : M.H0 p with
  | none => rfl
  | some o =>
    by_cases q : M.F0 p
    · exact absurd hp (M.tk H p R.inv q)
    · have := R.sm p o q e
      rw [hp] at this
      cases this
/-- a new address, one's own -/
theorem Rp.own1 {p : Addr} {o : HO} (R : Rp M O r σ H) (hp : H p = none) : Rp M (p :: O) r σ (upd H p o) := by
  have g : Sm (fun _ => False) H (upd H p o) := sm_new hp
  have R2 := R.grow g
  have nO : p ∉ O := fun z => (R.own p z).2 hp
  refine ⟨R2.sm, R2.inv, fun a ha => ?_, List.nodup_cons.mpr ⟨nO, R2.nod⟩, R2.len, fun j t ht => ?_, R2.one⟩
  · rcases List.mem_cons.mp ha with rfl | ha
    · exact ⟨free0 R hp, by rw [upd_same]; exact fun z => nomatch z⟩
    · exact R2.own a ha
  · have h1 := R.slot j t ht
    cases t with
    | un => trivial
    | d x =>
      obtain ⟨u, e2, h2⟩ := h1
      exact ⟨u, e2, h2.own1 hp⟩
    | mu l xs =>
      obtain ⟨e2, hl, ws, h2, h3⟩ := h1
      exact ⟨e2, List.mem_cons_of_mem _ hl, ws, g l _ (fun z => z) h2, h3.own1 hp⟩
theorem stp_new {H1 : Hp} (R1 : Rp M O r σ H1) (e1 : Sm M.F0 H H1) {p : Addr} {o : HO} (hp : H1 p = none) : Stp M O H (p :: O) (upd H1 p o) := by
  have i := R1.inv
  refine ⟨(sm_st e1).trans (sm_0 (sm_new hp)), fun a ha => ?_, fun a h => ?_⟩
  rcases List.mem_cons.mp ha with rfl | ha
  · right
    cases e : H a with
    | none => rfl
    | some o =>
      by_cases q : M.F0 a
      · exact absurd hp (M.tk H1 a i q)
      · rw [e1 a o q e] at hp
        cases hp
  · exact .inl ha
  · have h2 := R1.stays (sm_st e1) a h
    by_cases q : a = p
    · rw [q, upd_same]
      exact fun z => nomatch z
    · rw [upd_ne q]
      exact h2
/-- a new list of one's own: name = [..] -/
theorem ds_own {i : Nat} (h : DA M tl O r fun ds => ds.length ≤ sizeLine ∧ ∀ p, p ∉ O → E.nx (p :: O) (r.set i (.mu p ds))) : DS M (tAsg (tLst tl) (gName i)) O r E := fun σ H Z R z =>
  h σ H _ R fun vs H1 ds R1 e1 p1 q => ⟨by rw [← p1.length]; exact q.1, fun p hp => by
    have nO : p ∉ O := fun z => (R1.own p z).2 hp
    refine z.nx _ _ _ _ ((R1.own1 hp).set (i := i) (v := .ref p) (s := .mu p ds) ⟨rfl, List.mem_cons_self, vs, upd_same, p1.own1 hp⟩ fun l xs e j ys hj hy => ?_) (stp_new R1 e1 hp) (q.2 p nO)
    cases e
    exact nO (R1.slot j _ hy).2.1⟩
/-- an own list becomes data -/
theorem Rp.freeze {i : Nat} {p : Addr} {xs : List D} (R : Rp M O r σ H) (h : r[i]? = some (.mu p xs)) : Rp M (O.erase p) (r.set i (.d (.lst xs))) σ H := by
  obtain ⟨e1, hp, vs, h1, h2⟩ := R.slot i _ h
  have hi : i < r.length := (List.getElem?_eq_some_iff.mp h).1
  have w : ∀ a, nf M (O.erase p) a → nf M O a := fun a ha => ha.imp id List.mem_of_mem_erase
  have np : ¬ nf M (O.erase p) p := by
    rintro (q | q)
    · exact M.tr p q (R.own p hp).1
    · exact (R.nod.mem_erase_iff.mp q).1 rfl
  refine ⟨R.sm, R.inv, fun a ha => R.own a (List.mem_of_mem_erase ha), R.nod.erase p, by rw [List.length_set]; exact R.len, fun j t ht => ?_, fun j l q ys zs a1 a2 => ?_⟩
  · by_cases e : i = j
    · subst e
      rw [List.getElem?_set_self hi] at ht
      cases ht
      exact ⟨.ref p, e1, p, vs, rfl, .inl ⟨np, .inl h1⟩, h2.less w⟩
    · rw [List.getElem?_set_ne e] at ht
      have q := R.slot j t ht
      cases t with
      | un => trivial
      | d x =>
        obtain ⟨u, e2, q2⟩ := q
        exact ⟨u, e2, q2.less w⟩
      | mu l ys =>
        obtain ⟨e2, hl, ws, q2, q3⟩ := q
        refine ⟨e2, R.nod.mem_erase_iff.mpr ⟨fun z => ?_, hl⟩, ws, q2, q3.less w⟩
        subst z
        exact e (R.one i j l xs ys h ht)
  · have a1' : i ≠ j := fun z => by
      subst z
      rw [List.getElem?_set_self hi] at a1
      cases a1
    have a2' : i ≠ l := fun z => by
      subst z
      rw [List.getElem?_set_self hi] at a2
      cases a2
    rw [List.getElem?_set_ne a1'] at a1
    rw [List.getElem?_set_ne a2'] at a2
    exact R.one j l q ys zs a1 a2
theorem ds_freeze (i : Nat) {p : Addr} {xs : List D} (h : r[i]? = some (.mu p xs)) (q : DS M ts (O.erase p) (r.set i (.d (.lst xs))) E) : DS M ts O r E := fun σ H Z R z => q σ H Z (R.freeze h) (z.later R.inv ⟨.refl, fun a ha => .inl (List.mem_of_mem_erase ha), fun _ h => h⟩)
/-- flat data: no object -/
def D.flat : D → Bool
  | .lst _ => false
  | .tup _ => false
  | .ins _ _ _ => false
  | .exc _ _ _ => false
  | _ => true
theorem flat_rep {K : PySem.W.Frag} {N N' : No} {H H' : Hp} {d : D} {v : V} (f : d.flat = true) (h : Rep K N H d v) : Rep K N' H' d v := by
  cases d <;> first
    | exact h
    | cases f
/-- an own list read as data, for an answer that holds no object -/
theorem de_borrow (i : Nat) {p : Addr} {xs : List D} (h : r[i]? = some (.mu p xs)) (q : De M te (O.erase p) (r.set i (.d (.lst xs))) fun d => d.flat = true ∧ k d) : De M te O r k := fun σ H Q R z => by
  refine q σ H Q (R.freeze h) fun v H1 d R1 e1 p1 q1 => ?_
  exact z v H1 d (R.step e1 R1.inv) e1 (flat_rep q1.1 p1) q1.2
theorem dt_borrow (i : Nat) {p : Addr} {xs : List D} (h : r[i]? = some (.mu p xs)) (q : DT M tt (O.erase p) (r.set i (.d (.lst xs))) kt) : DT M tt O r kt := fun σ H Q R z =>
  q σ H Q (R.freeze h) fun b H1 R1 e1 q1 => z b H1 (R.step e1 R1.inv) e1 q1
theorem DS.imp {E' : Kn} (h : DS M ts O r E) (i : ∀ O r, E.nx O r → E'.nx O r) (j : ∀ d, E.rt d → E'.rt d) (b : ∀ O r, E.bk O r → E'.bk O r) (c : ∀ O r, E.ct O r → E'.ct O r) : DS M ts O r E' := fun σ H Z R z =>
  h σ H Z R ⟨fun O1 r1 σ1 H1 R1 a q => z.nx O1 r1 σ1 H1 R1 a (i _ _ q), fun v H1 d s1 i1 p1 q => z.rt v H1 d s1 i1 p1 (j _ q), fun O1 r1 σ1 H1 R1 a q => z.bk O1 r1 σ1 H1 R1 a (b _ _ q), fun O1 r1 σ1 H1 R1 a q => z.ct O1 r1 σ1 H1 R1 a (c _ _ q)⟩
/-- an own list written -/
theorem Rp.write {i : Nat} {p : Addr} {xs ys : List D} {ws : List V} (R : Rp M O r σ H) (h : r[i]? = some (.mu p xs)) (hw : RepL M.K (nf M O) H ys ws) : Rp M O (r.set i (.mu p ys)) σ (upd H p (.lst ws)) := by
  obtain ⟨e1, hp, vs, h1, h2⟩ := R.slot i _ h
  have hi : i < r.length := (List.getElem?_eq_some_iff.mp h).1
  have fp : M.H0 p = none := (R.own p hp).1
  have e : Sm (nf M O) H (upd H p (.lst ws)) := fun a o n e => by
    rw [upd_ne fun z => n (.inr (by rw [z]; exact hp))]
    exact e
  have at' : ∀ {m : Nat} {q : Addr} {zs : List D}, (r.set i (.mu p ys))[m]? = some (.mu q zs) → (m = i ∧ q = p) ∨ (m ≠ i ∧ r[m]? = some (.mu q zs)) := fun {m q zs} a => by
    by_cases em : i = m
    · subst em
      rw [List.getElem?_set_self hi] at a
      cases a
      exact .inl ⟨rfl, rfl⟩
    · rw [List.getElem?_set_ne em] at a
      exact .inr ⟨fun z => em z.symm, a⟩
  refine ⟨fun a o n e => ?_, M.st H _ R.inv fun a o f e => ?_, fun a ha => ⟨(R.own a ha).1, ?_⟩, R.nod, by rw [List.length_set]; exact R.len, fun j t ht => ?_, fun j l q zs us a1 a2 => ?_⟩
  · rw [upd_ne (ne_of_none e fp)]
    exact R.sm a o n e
  · rw [upd_ne fun z => M.tr a (M.f0 a f) (by rw [z]; exact fp)]
    exact e
  · by_cases q : a = p
    · rw [q, upd_same]
      exact fun z => nomatch z
    · rw [upd_ne q]
      exact (R.own a ha).2
  · by_cases ej : i = j
    · subst ej
      rw [List.getElem?_set_self hi] at ht
      cases ht
      exact ⟨e1, hp, ws, upd_same, hw.mono e⟩
    · rw [List.getElem?_set_ne ej] at ht
      have h1 := R.slot j t ht
      cases t with
      | un => trivial
      | d x =>
        obtain ⟨u, e2, h2⟩ := h1
        exact ⟨u, e2, h2.mono e⟩
      | mu l zs =>
        obtain ⟨e2, hl, us, h2, h3⟩ := h1
        refine ⟨e2, hl, us, ?_, h3.mono e⟩
        rw [upd_ne fun z => by
          subst z
          exact ej (R.one i j l xs zs h ht)]
        exact h2
  · rcases at' a1 with ⟨rfl, rfl⟩ | ⟨n1, b1⟩
    · rcases at' a2 with ⟨rfl, _⟩ | ⟨n2, b2⟩
      · rfl
      · exact absurd (R.one _ _ _ _ _ h b2) fun z => n2 z.symm
    · rcases at' a2 with ⟨rfl, rfl⟩ | ⟨n2, b2⟩
      · exact absurd (R.one _ _ _ _ _ h b1) fun z => n1 z.symm
      · exact R.one j l q zs us b1 b2
theorem stp_write {i : Nat} {p : Addr} {xs : List D} {ws : List V} {H1 : Hp} (R : Rp M O r σ H1) (h : r[i]? = some (.mu p xs)) (e1 : Sm M.F0 H H1) : Stp M O H O (upd H1 p (.lst ws)) := by
  have hp := (R.slot i _ h).2.1
  refine ⟨fun a o n e => ?_, fun _ h => .inl h, fun a h => ?_⟩
  · rw [upd_ne fun z => n (.inr (by rw [z]; exact hp))]
    exact e1 a o (fun z => n (.inl z)) e
  · have h2 := R.stays (sm_st e1) a h
    by_cases q : a = p
    · rw [q, upd_same]
      exact fun z => nomatch z
    · rw [upd_ne q]
      exact h2
/-- xs.append(e) -/
theorem ds_append {i : Nat} {p : Addr} {xs : List D} (h : r[i]? = some (.mu p xs)) (hz : xs.length < sizeLine) (q : De M te O r fun d => E.nx O (r.set i (.mu p (xs ++ [d])))) :
    DS M (tDrop (tBM M.K "list" rAppend (tVar i) (tCons te tNil))) O r E := fun σ H Z R z => by
  obtain ⟨e1, hp, vs, h1, h2⟩ := R.slot i _ h
  refine ⟨.ref p, e1, .inl ⟨rfl, vs, .inl (.inl h1)⟩, ?_⟩
  refine q σ H _ R fun v H1 d R1 e2 p1 q1 => ?_
  obtain ⟨_, _, vs', h1', h2'⟩ := R1.slot i _ h
  refine ⟨p, vs', v, rfl, rfl, h1', by rw [← h2'.length]; exact hz, ?_⟩
  exact z.nx O _ σ _ (R1.write h (h2'.append (.one p1))) (stp_write R1 h e2) q1
end
end Dw

namespace Dw
open PySem PySem.Spec PyProof.Rows L2

/-! ### promises over data -/
/-- what a def may turn, told by a ghost -/
structure Sg where
  G : Type
  F0 : G → No
  I : G → Hp → Prop
  st : ∀ g H H', I g H → (∀ a o, F0 g a → H a = some o → H' a = some o) → I g H'
  tk : ∀ g H a, I g H → F0 g a → H a ≠ none
def pure0 : Sg := ⟨Unit, fun _ _ => False, fun _ _ => True, fun _ _ _ _ _ => trivial, fun _ _ _ _ h => h.elim⟩
def SpD (K : PySem.W.Frag) (S : Sg) (pre : S.G → List D → Prop) (post : S.G → List D → D → Prop) : Sp := fun vs H Q _ =>
  ∃ (g : S.G) (ds : List D) (F : No), RepL K F H ds vs ∧ (∀ a, S.F0 g a → F a) ∧ (∀ a, F a → H a ≠ none) ∧ S.I g H ∧ pre g ds ∧
    ∀ v H' d, Sm (S.F0 g) H H' → S.I g H' → Rep K F H' d v → post g ds d → Q v H'
/-- a pure def's promise -/
abbrev SpP (K : PySem.W.Frag) (pre : List D → Prop) (post : List D → D → Prop) : Sp := SpD K pure0 (fun _ => pre) (fun _ => post)

/-- the mode of a def's body -/
abbrev mdOf (K : PySem.W.Frag) (S : Sg) (g : S.G) (H : Hp) (F : No) (f0 : ∀ a, S.F0 g a → F a) (tr : ∀ a, F a → H a ≠ none) : Md :=
  ⟨K, H, S.F0 g, F, S.I g, f0, tr, S.st g, S.tk g⟩

/-- the slots at the entry -/
def startR (n : Nat) (ds : List D) : List Sl := ds.map Sl.d ++ List.replicate (n - ds.length) .un
theorem start_rp {M : Md} {N : List Str} {ds : List D} {vs : List V} (p : RepL M.K M.F M.H0 ds vs) (i : M.I M.H0) : Rp M [] (startR N.length ds) (start N vs) M.H0 := by
  have hl := p.length
  refine ⟨Sm.refl, i, (fun _ h => nomatch h), List.nodup_nil, ?_, (fun j s h => ?_), (fun j l q xs ys h _ => ?_)⟩
  · unfold L2.start startR
    rw [List.length_append, List.length_append, List.length_map, List.length_map, List.length_replicate, List.length_replicate, hl]
  · unfold startR at h
    by_cases hj : j < ds.length
    · rw [List.getElem?_append_left (by rw [List.length_map]; exact hj), List.getElem?_map, List.getElem?_eq_getElem hj] at h
      have h : some (Sl.d ds[j]) = some s := h
      cases h
      obtain ⟨v, q1, q2⟩ := p.get (List.getElem?_eq_getElem hj)
      refine ⟨v, ?_, q2.less fun a z => z.elim id (fun q => nomatch q)⟩
      unfold L2.start
      rw [List.getElem?_append_left (by rw [List.length_map, ← hl]; exact hj), List.getElem?_map, q1]
      rfl
    · rw [List.getElem?_append_right (by rw [List.length_map]; omega)] at h
      have h2 := List.eq_of_mem_replicate (List.mem_of_getElem? h)
      subst h2
      trivial
  · unfold startR at h
    by_cases hj : j < ds.length
    · rw [List.getElem?_append_left (by rw [List.length_map]; exact hj), List.getElem?_map, List.getElem?_eq_getElem hj] at h
      cases h
    · rw [List.getElem?_append_right (by rw [List.length_map]; omega)] at h
      have h2 := List.eq_of_mem_replicate (List.mem_of_getElem? h)
      cases h2
section
variable {P : Program} {w : World} {K : PySem.W.Frag} {mg : Str → Option Value} {base : Heap}
/-- a def by its body, over data -/
theorem fn_dw {x qual : Str} {st : Stmt} {f : Addr} {fd : FuncData} {N ps : List Str} {k : Nat} {S : Sg} {pre : S.G → List D → Prop} {post : S.G → List D → D → Prop} (F : Fun K x qual st f fd) (T : FnScope N ps (defScope st))
    (len : ∀ g ds, pre g ds → ds.length = ps.length)
    (body : ∀ (cdv : Value) (A : Around) (outer : List Env) (s : Shared) (H : Hp) (E : XK) (g : S.G) (ds : List D) (F1 : No) (f0 : ∀ a, S.F0 g a → F1 a) (tr : ∀ a, F1 a → H a ≠ none), Room k (A.deeper (envOfC qual (defScope st) s.heap.objs.size f cdv)) → pre g ds →
      ∃ t, PSs (cxOf CX0 P w K mg base N qual (defScope st) f cdv A outer s H E).nox (defBody st) t ∧ DS (mdOf K S g H F1 f0 tr) t [] (startR N.length ds) { nx := fun _ _ => post g ds .non, rt := post g ds }) : FnOk P w K mg base CX0 (k + 1) f fd ps (SpD K S pre post) := by
  refine F.ok T (fun vs H Q E h => ?_) (fun cdv A outer s H vs Q E hr h => ?_)
  · obtain ⟨g, ds, F1, p, _, _, _, q, _⟩ := h
    rw [← p.length, len g ds q]
  · obtain ⟨g, ds, F1, p, f0, tr, i, q, z⟩ := h
    obtain ⟨t, ht, hd⟩ := body cdv A outer s H E g ds F1 f0 tr hr q
    refine ⟨t, ht, hd _ H _ (start_rp (M := mdOf K S g H F1 f0 tr) p i) ⟨fun O r σ H1 R a q => z .non H1 .non R.sm R.inv rfl q, fun v H1 d s1 i1 p1 q => z v H1 d s1 i1 p1 q, fun _ _ _ _ _ _ q => q.elim, fun _ _ _ _ _ _ q => q.elim⟩⟩
end
section
variable {M : Md} {O : List Addr} {r : List Sl} {k : D → Prop} {tl : TA} {Ex : XK}
/-- a call -/
theorem de_call {S : Sg} {pre : S.G → List D → Prop} {post : S.G → List D → D → Prop} (g : S.G) (h0 : M.F0 = S.F0 g) (hI : M.I = S.I g)
    (h : DA M tl O r fun ds => pre g ds ∧ ∀ d, post g ds d → k d) : De M (tCall (SpD M.K S pre post) [] Ex tl) O r k := fun σ H Q R z => by
  refine h σ H _ R fun vs H1 ds R1 e1 p1 q => ?_
  rw [List.append_nil]
  refine ⟨g, ds, nf M O, p1, fun a x => .inl (M.f0 a (by rw [h0]; exact x)), nf_tr R1, by rw [← hI]; exact R1.inv, q.1, fun v H2 d s i p po => ?_⟩
  have s' : Sm M.F0 H1 H2 := by rw [h0]; exact s
  exact z v H2 d (R1.step s' (by rw [hI]; exact i)) (e1.trans s') p (q.2 d po)
theorem de_callP {pre : List D → Prop} {post : List D → D → Prop} (h : DA M tl O r fun ds => pre ds ∧ ∀ d, post ds d → k d) : De M (tCall (SpP M.K pre post) [] Ex tl) O r k := fun σ H Q R z => by
  refine h σ H _ R fun vs H1 ds R1 e1 p1 q => ?_
  rw [List.append_nil]
  exact ⟨(), ds, nf M O, p1, fun a x => x.elim, nf_tr R1, trivial, q.1, fun v H2 d s i p po => z v H2 d (R1.grow s) (e1.trans (sm_0 s)) p (q.2 d po)⟩
end

/-! ### what is walked -/
structure Wk (K : PySem.W.Frag) (J : It) (xs : List D) where
  G : No → Hp → Prop
  mono : ∀ N H H', Sm N H H' → G N H → G N H'
  gen : ∀ N N' H, (∀ a, N' a → N a ∨ H a = none) → G N H → G N' H
  go : ∀ N H i, G N H → i < xs.length → J.go i H
  yld : ∀ N H i x H' d, (∀ a, N a → H a ≠ none) → G N H → J.yld i H x H' → xs[i]? = some d → Sm (fun _ => False) H H' ∧ Rep K N H' d x
  stop : ∀ N H i, G N H → xs.length ≤ i → J.stop i H
def DI (M : Md) (wi : TI) (O : List Addr) (r : List Sl) (k : List D → Prop) : Prop :=
  ∀ σ H (Q : It → Hp → Prop), Rp M O r σ H → (∀ J H' xs (W : Wk M.K J xs), Rp M O r σ H' → Sm M.F0 H H' → W.G (nf M O) H' → k xs → Q J H') → wi σ H Q
section
variable {M : Md} {O : List Addr} {r : List Sl} {k : List D → Prop} {te : TE} {ta : TA}
def wk_list (K : PySem.W.Frag) (a : Addr) (xs : List D) : Wk K (Itl K a) xs where
  G := fun N H => ∃ vs, LAt K N H a vs ∧ RepL K N H xs vs
  mono := fun N H H' e ⟨vs, h1, h2⟩ => ⟨vs, h1.mono e, h2.mono e⟩
  gen := fun N N' H e ⟨vs, h1, h2⟩ => ⟨vs, h1.gen e, h2.gen e⟩
  go := fun N H i ⟨vs, h1, h2⟩ hi => ⟨vs, vs[i]'(by rw [← h2.length]; exact hi), h1.sq, List.getElem?_eq_getElem _⟩
  yld := fun N H i x H' d _ ⟨vs, h1, h2⟩ y hd => by
    obtain ⟨rfl, y⟩ := y
    obtain ⟨v, q1, q2⟩ := h2.get hd
    have := y vs h1.sq
    rw [q1] at this
    cases this
    exact ⟨.refl, q2⟩
  stop := fun N H i ⟨vs, h1, h2⟩ hi => ⟨vs, h1.sq, by rw [← h2.length]; exact hi⟩
def wk_tup (K : PySem.W.Frag) (a : Addr) (xs : List D) : Wk K (Itt K a) xs where
  G := fun N H => ∃ vs, TAt K N H a vs ∧ RepL K N H xs vs
  mono := fun N H H' e ⟨vs, h1, h2⟩ => ⟨vs, h1.mono e, h2.mono e⟩
  gen := fun N N' H e ⟨vs, h1, h2⟩ => ⟨vs, h1.gen e, h2.gen e⟩
  go := fun N H i ⟨vs, h1, h2⟩ hi => ⟨vs, vs[i]'(by rw [← h2.length]; exact hi), h1.sq, List.getElem?_eq_getElem _⟩
  yld := fun N H i x H' d _ ⟨vs, h1, h2⟩ y hd => by
    obtain ⟨rfl, y⟩ := y
    obtain ⟨v, q1, q2⟩ := h2.get hd
    have := y vs h1.sq
    rw [q1] at this
    cases this
    exact ⟨.refl, q2⟩
  stop := fun N H i ⟨vs, h1, h2⟩ hi => ⟨vs, h1.sq, by rw [← h2.length]; exact hi⟩
/-- lo, lo + 1, .. -/
def rangeD (lo : Int) (n : Nat) : List D := (List.range n).map fun (i : Nat) => D.int (lo + (i : Int))
theorem rangeD_len (lo : Int) (n : Nat) : (rangeD lo n).length = n := by
  unfold rangeD
  rw [List.length_map, List.length_range]
theorem rangeD_get {lo : Int} {n i : Nat} {d : D} (h : (rangeD lo n)[i]? = some d) : i < n ∧ d = .int (lo + (i : Int)) := by
  have hi : i < n := by
    have := (List.getElem?_eq_some_iff.mp h).1
    rw [rangeD_len] at this
    exact this
  refine ⟨hi, ?_⟩
  unfold rangeD at h
  rw [List.getElem?_map, List.getElem?_range hi] at h
  exact (Option.some.inj h).symm
def wk_range (K : PySem.W.Frag) (lo : Int) (n : Nat) : Wk K (Itr lo n) (rangeD lo n) where
  G := fun _ _ => True
  mono := fun _ _ _ _ _ => trivial
  gen := fun _ _ _ _ _ => trivial
  go := fun N H i _ hi => by
    rw [rangeD_len] at hi
    exact hi
  yld := fun N H i x H' d _ _ y hd => by
    obtain ⟨rfl, rfl⟩ := y
    obtain ⟨_, rfl⟩ := rangeD_get hd
    exact ⟨.refl, rfl⟩
  stop := fun N H i _ hi => by
    rw [rangeD_len] at hi
    exact hi
theorem di_list (h : De M te O r fun x => ∃ xs, x = .lst xs ∧ k xs) : DI M (iList M.K te) O r k := fun σ H Q R z => h σ H _ R fun v H1 x R1 e1 p1 q => by
  obtain ⟨xs, rfl, q⟩ := q
  obtain ⟨a, vs, rfl, h1, h2⟩ := p1
  exact ⟨a, rfl, ⟨vs, h1.sq⟩, z _ H1 xs (wk_list M.K a xs) R1 e1 ⟨vs, h1, h2⟩ q⟩
theorem di_tup (h : De M te O r fun x => ∃ xs, x = .tup xs ∧ k xs) : DI M (iTup M.K te) O r k := fun σ H Q R z => h σ H _ R fun v H1 x R1 e1 p1 q => by
  obtain ⟨xs, rfl, q⟩ := q
  obtain ⟨a, vs, rfl, h1, h2⟩ := p1
  exact ⟨a, rfl, ⟨vs, h1.sq⟩, z _ H1 xs (wk_tup M.K a xs) R1 e1 ⟨vs, h1, h2⟩ q⟩
theorem di_range1 (h : DA M ta O r fun ds => ∃ n : Int, ds = [.int n] ∧ (-(2 ^ 62) ≤ n ∧ n < 2 ^ 62) ∧ k (rangeD 0 n.toNat)) : DI M (iRng1 ta) O r k := fun σ H Q R z => h σ H _ R fun vs H1 ds R1 e1 p1 q => by
  obtain ⟨n, rfl, ⟨b1, b2⟩, q⟩ := q
  have e : vs = [.int n] := repL_ints (ns := [n]) p1
  exact ⟨n, e, b1, b2, z _ H1 _ (wk_range M.K 0 n.toNat) R1 e1 trivial q⟩
theorem di_range2 (h : DA M ta O r fun ds => ∃ m n : Int, ds = [.int m, .int n] ∧ (-(2 ^ 62) ≤ m ∧ m < 2 ^ 62 ∧ -(2 ^ 62) ≤ n ∧ n < 2 ^ 62) ∧ k (rangeD m (n - m).toNat)) : DI M (iRng2 ta) O r k := fun σ H Q R z => h σ H _ R fun vs H1 ds R1 e1 p1 q => by
  obtain ⟨m, n, rfl, b, q⟩ := q
  have e : vs = [.int m, .int n] := repL_ints (ns := [m, n]) p1
  exact ⟨m, n, e, b, z _ H1 _ (wk_range M.K m (n - m).toNat) R1 e1 trivial q⟩
end

/-! ### targets -/
def DG (M : Md) (g : TG) (js : List Nat) (O : List Addr) (r : List Sl) (d : D) (k : List Sl → Prop) : Prop :=
  ∀ v σ H (Q : L2.St → Hp → Prop), Rp M O r σ H → Rep M.K (nf M O) H d v → (∀ σ' r', Rp M O r' σ' H → (∀ vs : List Nat, (∀ j ∈ js, j ∈ vs) → wipe σ' vs = wipe σ vs) → k r' → Q σ' H) → g v σ H Q
def DGs (M : Md) (g : TGs) (js : List Nat) (O : List Addr) (r : List Sl) (ds : List D) (k : List Sl → Prop) : Prop :=
  ∀ vs σ H (Q : L2.St → Hp → Prop), Rp M O r σ H → RepL M.K (nf M O) H ds vs → (∀ σ' r', Rp M O r' σ' H → (∀ ws : List Nat, (∀ j ∈ js, j ∈ ws) → wipe σ' ws = wipe σ ws) → k r' → Q σ' H) → g vs σ H Q
theorem wipe_set_out {σ : L2.St} {i : Nat} {x : Option V} : ∀ {vs : List Nat}, i ∉ vs → wipe (σ.set i x) vs = (wipe σ vs).set i x
  | [], _ => rfl
  | j :: r, h => by
    show (wipe (σ.set i x) r).set j none = ((wipe σ r).set j none).set i x
    rw [wipe_set_out fun z => h (List.mem_cons_of_mem _ z), List.set_comm _ _ fun z => h (by rw [z]; simp)]
theorem wipe_set {σ : L2.St} {i : Nat} {x : Option V} : ∀ {vs : List Nat}, i ∈ vs → wipe (σ.set i x) vs = wipe σ vs
  | [], h => nomatch h
  | j :: r, h => by
    show (wipe (σ.set i x) r).set j none = (wipe σ r).set j none
    by_cases hr : i ∈ r
    · rw [wipe_set hr]
    · have e : i = j := (List.mem_cons.mp h).resolve_right hr
      subst e
      rw [wipe_set_out hr, List.set_set]
section
variable {M : Md} {O : List Addr} {r : List Sl} {k : List Sl → Prop}
theorem dg_name {j : Nat} {d : D} (h : k (r.set j (.d d))) : DG M (gName j) [j] O r d k := fun v σ H Q R p z =>
  z _ _ (R.set (s := .d d) ⟨v, rfl, p⟩ (fun p xs e => nomatch e)) (fun vs hv => wipe_set (hv j (by simp))) h
theorem dgs_nil (h : k r) : DGs M gNil [] O r [] k := fun vs σ H Q R p z => ⟨p, z _ _ R (fun _ _ => rfl) h⟩
theorem dgs_cons {g : TG} {gs : TGs} {js ls : List Nat} {d : D} {ds : List D} (h : DG M g js O r d fun r1 => DGs M gs ls O r1 ds k) : DGs M (gCons g gs) (js ++ ls) O r (d :: ds) k := fun vs σ H Q R p z => by
  obtain ⟨v, ws, rfl, p1, p2⟩ := p
  refine ⟨v, ws, rfl, h v σ H _ R p1 fun σ1 r1 R1 w1 q1 => q1 ws σ1 H Q R1 p2 fun σ2 r2 R2 w2 q2 => z _ _ R2 (fun us hu => ?_) q2⟩
  rw [w2 us fun j hj => hu j (List.mem_append_right _ hj), w1 us fun j hj => hu j (List.mem_append_left _ hj)]
theorem dg_tup {gs : TGs} {js : List Nat} {n : Nat} {ds : List D} (hn : ds.length = n) (h : DGs M gs js O r ds k) : DG M (gTup M.K n gs) js O r (.tup ds) k := fun v σ H Q R p z => by
  obtain ⟨a, vs, rfl, h1, h2⟩ := p
  exact ⟨a, vs, rfl, h1.sq, by rw [← h2.length, hn], h vs σ H Q R h2 z⟩
end

/-! ### comprehensions -/
def wipeR (r : List Sl) : List Nat → List Sl
  | [] => r
  | j :: js => (wipeR r js).set j .un
def muOk (r : List Sl) (vs : List Nat) : Bool := vs.all fun j => match r[j]? with
  | some (.mu _ _) => false
  | _ => true
section
variable {M : Md} {O : List Addr} {r : List Sl} {σ : L2.St} {H H' : Hp}
theorem Rp.unset {i : Nat} (R : Rp M O r σ H) : Rp M O (r.set i .un) (σ.set i none) H := by
  refine ⟨R.sm, R.inv, R.own, R.nod, by rw [List.length_set, List.length_set]; exact R.len, fun j t ht => ?_, fun j l p xs ys h1 h2 => ?_⟩
  · by_cases e : i = j
    · subst e
      by_cases hi : i < r.length
      · rw [List.getElem?_set_self hi] at ht
        cases ht
        trivial
      · rw [List.getElem?_eq_none (by rw [List.length_set]; omega)] at ht
        cases ht
    · rw [List.getElem?_set_ne e] at ht
      rw [List.getElem?_set_ne e]
      exact R.slot j t ht
  · have a : ∀ {m : Nat} {zs : List D}, (r.set i .un)[m]? = some (.mu p zs) → r[m]? = some (.mu p zs) := fun {m zs} h => by
      by_cases e : i = m
      · subst e
        by_cases hi : i < r.length
        · rw [List.getElem?_set_self hi] at h
          cases h
        · rw [List.getElem?_eq_none (by rw [List.length_set]; omega)] at h
          cases h
      · rw [List.getElem?_set_ne e] at h
        exact h
    exact R.one j l p xs ys (a h1) (a h2)
theorem Rp.wipe (R : Rp M O r σ H) : ∀ vs : List Nat, Rp M O (wipeR r vs) (wipe σ vs) H
  | [] => R
  | j :: vs => (Rp.wipe R vs).unset (i := j)
/-- back from a block: the slots as they were ahead of it -/
theorem Rp.back {O' : List Addr} {r' : List Sl} {σ' : L2.St} (R : Rp M O r σ H) (R' : Rp M O' r' σ' H') (e : Sm M.F0 H H') : Rp M O r σ H' := R.step e R'.inv
theorem wipeR_get {vs : List Nat} : ∀ {r : List Sl} {i : Nat}, i ∉ vs → (wipeR r vs)[i]? = r[i]? := by
  induction vs with
  | nil => intro r i _; rfl
  | cons j js ih =>
    intro r i h
    show ((wipeR r js).set j .un)[i]? = _
    rw [List.getElem?_set_ne fun z => h (by rw [z]; simp), ih fun z => h (List.mem_cons_of_mem _ z)]
theorem muOk_not {vs : List Nat} {p : Addr} {xs : List D} {i : Nat} (h : muOk r vs = true) (e : r[i]? = some (.mu p xs)) : i ∉ vs := fun hi => by
  have := List.all_eq_true.mp h i hi
  rw [e] at this
  exact nomatch this
end
end Dw

namespace Dw
open PySem PySem.Spec PyProof.Rows L2
theorem wipe_wipe {σ : L2.St} {vs : List Nat} : ∀ {us : List Nat}, (∀ j ∈ us, j ∈ vs) → wipe (wipe σ us) vs = wipe σ vs
  | [], _ => rfl
  | j :: us, h => by
    show wipe ((wipe σ us).set j none) vs = _
    rw [wipe_set (h j (by simp)), wipe_wipe fun l hl => h l (List.mem_cons_of_mem _ hl)]
section
variable {M : Md} {O : List Addr} {r : List Sl} {wi : TI} {g : TG} {tt : TT} {te : TE} {vs js : List Nat} {k : D → Prop}
/-- [te for g in wi if tt]: R tells the items made in the first i turns -/
theorem de_lc (hjs : ∀ j ∈ js, j ∈ vs) (h : DI M wi O r fun xs => xs.length < sizeLine ∧ ∃ R : Nat → List D → Prop, R 0 [] ∧
    (∀ (O' : List Addr) (i : Nat) (x : D) (ys : List D), xs[i]? = some x → R i ys → DG M g js O' (wipeR r vs) x fun r2 => DT M tt O' r2 fun b => if b = true then De M te O' r2 fun y => R (i + 1) (ys ++ [y]) else R (i + 1) ys) ∧
    ∀ ys, R xs.length ys → k (.lst ys)) : De M (tLc wi g tt te vs) O r k := fun σ H Q R0 z => by
  refine h σ H _ R0 fun J H1 xs W R1 e1 g1 q => ?_
  intro Dl hD
  obtain ⟨hz, R, r0, turn, fin⟩ := q
  have GD : W.G (nf M (Dl :: O)) (upd H1 Dl (.lst [])) := W.mono _ _ _ (sm_0 (sm_new hD)) (W.gen _ _ _ (fun a ha => (plus_of a ha).imp id fun z => by rw [z]; exact hD) g1)
  refine ⟨fun i m H2 => m = xs.length - i ∧ i ≤ xs.length ∧ ∃ ys acc, R i ys ∧ ys.length ≤ i ∧ H2 Dl = some (.lst acc) ∧ RepL M.K (nf M (Dl :: O)) H2 ys acc ∧ Rp M (Dl :: O) r σ H2 ∧ Sm M.F0 H1 H2 ∧ W.G (nf M (Dl :: O)) H2,
    ⟨xs.length, by simp, Nat.zero_le _, [], [], r0, Nat.le_refl _, upd_same, .nil, R1.own1 hD, sm_0 (sm_new hD), GD⟩, ?_⟩
  rintro i m H2 ⟨rfl, hi, ys, acc, hR, hy, hd, pa, R2, e2, g2⟩
  by_cases hlt : i < xs.length
  · refine .inr ⟨W.go _ _ i g2 hlt, _, fun H' p => ⟨xs.length - (i + 1), by omega, rfl, hlt, p⟩, fun x H3 y => ?_⟩
    obtain ⟨s3, p3⟩ := W.yld _ _ i x H3 _ (nf_tr R2) g2 y (List.getElem?_eq_getElem hlt)
    have R3 := R2.grow s3
    refine turn (Dl :: O) i _ ys (List.getElem?_eq_getElem hlt) hR x _ H3 _ (R3.wipe vs) p3 fun σ4 r4 R4 w4 q4 => ⟨?_, ?_⟩
    · rw [w4 vs hjs, wipe_wipe fun _ h => h]
    · refine q4 σ4 H3 _ R4 fun b H5 R5 e5 q5 => ?_
      have e35 : Sm M.F0 H2 H5 := (sm_0 s3).trans e5
      cases b with
      | false =>
        rw [if_neg Bool.false_ne_true] at q5 ⊢
        have R5' := R2.step e35 R5.inv
        have nD : ¬ M.F0 Dl := fun z => M.tr Dl (M.f0 Dl z) (R2.own Dl (by simp)).1
        exact ⟨ys, acc, q5, by omega, e35 Dl _ nD hd, pa.step e35, R5', e2.trans e35, W.mono _ _ _ (e35.wide nf0) g2⟩
      | true =>
        rw [if_pos rfl] at q5 ⊢
        refine q5 σ4 H5 _ R5 fun v H6 d R6 e6 p6 q6 => ?_
        have e26 : Sm M.F0 H2 H6 := e35.trans e6
        have nD : ¬ M.F0 Dl := fun z => M.tr Dl (M.f0 Dl z) (R2.own Dl (by simp)).1
        have hd6 := e26 Dl _ nD hd
        have pa6 := pa.step e26
        refine ⟨acc, hd6, by rw [← pa.length]; omega, ys ++ [d], acc ++ [v], q6, by simp; omega, upd_same, ?_, ?_, ?_, ?_⟩
        · have e : Sm (nf M (Dl :: O)) H6 (upd H6 Dl (.lst (acc ++ [v]))) := fun a o n e => by
            rw [upd_ne fun z => n (.inr (by rw [z]; simp))]
            exact e
          exact (pa6.append (.one p6)).mono e
        · -- the own list is in no slot
          have R6' := R2.step e26 R6.inv
          have fp : M.H0 Dl = none := (R2.own Dl (by simp)).1
          have nin : ∀ (j : Nat) (zs : List D), r[j]? ≠ some (.mu Dl zs) := fun j zs e => (R1.own Dl (R1.slot j _ e).2.1).2 hD
          have e : Sm (nf M (Dl :: O)) H6 (upd H6 Dl (.lst (acc ++ [v]))) := fun a o n e => by
            rw [upd_ne fun z => n (.inr (by rw [z]; simp))]
            exact e
          refine ⟨fun a o n e => ?_, M.st H6 _ R6'.inv fun a o f e => ?_, fun a ha => ⟨(R6'.own a ha).1, ?_⟩, R6'.nod, R6'.len, fun j t ht => ?_, R6'.one⟩
          · rw [upd_ne (ne_of_none e fp)]
            exact R6'.sm a o n e
          · rw [upd_ne fun z => M.tr a (M.f0 a f) (by rw [z]; exact fp)]
            exact e
          · by_cases q : a = Dl
            · rw [q, upd_same]
              exact fun z => nomatch z
            · rw [upd_ne q]
              exact (R6'.own a ha).2
          · have h1 := R6'.slot j t ht
            cases t with
            | un => trivial
            | d x =>
              obtain ⟨u, e2, h2⟩ := h1
              exact ⟨u, e2, h2.mono e⟩
            | mu l zs =>
              obtain ⟨e2, hl, us, h2, h3⟩ := h1
              refine ⟨e2, hl, us, ?_, h3.mono e⟩
              rw [upd_ne fun z => nin j zs (by rw [← z]; exact ht)]
              exact h2
        · exact fun a o n e => by
            have ea := e2.trans e26 a o n e
            rw [upd_ne (ne_of_none e hD)]
            exact ea
        · exact W.mono _ _ _ (fun a o n e => by
            rw [upd_ne fun z => n (.inr (by rw [z]; simp))]
            exact e26 a o (fun z => n (nf0 a z)) e) g2
  · have e : i = xs.length := by omega
    subst e
    refine .inl ⟨W.stop _ _ _ g2 (Nat.le_refl _), ?_⟩
    have w : ∀ a, nf M O a → nf M (Dl :: O) a := fun a ha => ha.imp id (List.mem_cons_of_mem _)
    refine z (.ref Dl) H2 (.lst ys) (R1.step e2 R2.inv) (e1.trans e2) ⟨Dl, acc, rfl, .inl ⟨new_no R1 hD, .inl hd⟩, pa.less w⟩ (fin ys hR)
/-- .. where the test and the item are functions of what is walked -/
theorem de_lcF (p : D → Bool) (f : D → D) (hjs : ∀ j ∈ js, j ∈ vs) (h : DI M wi O r fun xs => xs.length < sizeLine ∧
    (∀ (O' : List Addr) (i : Nat) (x : D), xs[i]? = some x → DG M g js O' (wipeR r vs) x fun r2 => DT M tt O' r2 fun b => b = p x ∧ (p x = true → De M te O' r2 fun y => y = f x)) ∧
    k (.lst ((xs.filter p).map f))) : De M (tLc wi g tt te vs) O r k :=
  de_lc hjs fun σ H Q R z => h σ H Q R fun J H1 xs W R1 e1 g1 ⟨hz, turn, fin⟩ => z J H1 xs W R1 e1 g1 ⟨hz, fun i ys => ys = ((xs.take i).filter p).map f, by simp, fun O' i x ys hx hy => by
    have ht : xs.take (i + 1) = xs.take i ++ [x] := by rw [List.take_add_one, hx]; rfl
    refine fun v σ H Q R pv z => turn O' i x hx v σ H Q R pv fun σ' r' R' w' q => z σ' r' R' w' (q.imp fun b ⟨hb, hq⟩ => ?_)
    subst hb
    cases e : p x with
    | true =>
      rw [if_pos rfl]
      refine (hq e).imp fun y hy2 => ?_
      show ys ++ [y] = ((xs.take (i + 1)).filter p).map f
      rw [ht, List.filter_append, List.map_append, hy, hy2, List.filter_cons_of_pos e]
      rfl
    | false =>
      rw [if_neg Bool.false_ne_true]
      show ys = ((xs.take (i + 1)).filter p).map f
      rw [ht, List.filter_append, List.map_append, hy, List.filter_cons_of_neg (by rw [e]; decide)]
      simp, fun ys hy => by
    rw [hy, List.take_length]
    exact fin⟩
/-- .. one item a turn, each of a kind -/
theorem de_lcP (C : Nat → D → D → Prop) (hjs : ∀ j ∈ js, j ∈ vs) (h : DI M wi O r fun xs => xs.length < sizeLine ∧
    (∀ (O' : List Addr) (i : Nat) (x : D), xs[i]? = some x → DG M g js O' (wipeR r vs) x fun r2 => De M te O' r2 (C i x)) ∧
    ∀ ys, ys.length = xs.length → (∀ (i : Nat) x y, xs[i]? = some x → ys[i]? = some y → C i x y) → k (.lst ys)) : De M (tLc wi g tYes te vs) O r k :=
  de_lc hjs fun σ H Q R z => h σ H Q R fun J H1 xs W R1 e1 g1 ⟨hz, turn, fin⟩ => z J H1 xs W R1 e1 g1 ⟨hz, fun i ys => ys.length = i ∧ ∀ (j : Nat) x y, xs[j]? = some x → ys[j]? = some y → C j x y, ⟨rfl, fun j x y _ e => by simp at e⟩, fun O' i x ys hx ⟨hl, hy⟩ => by
    refine fun v σ H Q R pv z => turn O' i x hx v σ H Q R pv fun σ' r' R' w' q => z σ' r' R' w' fun σ H Q R z => z true H R .refl (iteT ?_)
    refine q.imp fun y cy => ⟨by simp [hl], fun j a b ha hb => ?_⟩
    by_cases hj : j < ys.length
    · rw [List.getElem?_append_left hj] at hb
      exact hy j a b ha hb
    · rw [List.getElem?_append_right (by omega)] at hb
      have hj2 : j - ys.length = 0 := by
        refine Nat.eq_zero_of_not_pos fun q => ?_
        rw [List.getElem?_eq_none (by simp; omega)] at hb
        cases hb
      rw [hj2] at hb
      have ej : j = i := by omega
      subst ej
      rw [hx] at ha
      cases ha
      cases hb
      exact cy, fun ys ⟨hl, hy⟩ => fin ys hl hy⟩
end
/-! ### for -/
section
variable {M : Md} {O : List Addr} {r : List Sl} {wi : TI} {g : TG} {tb : TS} {js : List Nat} {E : Kn}
theorem ds_for (h : DI M wi O r fun xs => ∃ V : Nat → List Addr → List Sl → Prop, V 0 O r ∧
    (∀ (i : Nat) (x : D) (O' : List Addr) (r' : List Sl), xs[i]? = some x → V i O' r' → DG M g js O' r' x fun r2 => DS M tb O' r2 { E with nx := V (i + 1), ct := V (i + 1), bk := E.nx }) ∧
    ∀ (O' : List Addr) (r' : List Sl), V xs.length O' r' → E.nx O' r') : DS M (tFor wi g tb) O r E := fun σ H Z R0 z => by
  refine h σ H _ R0 fun J H1 xs W R1 e1 g1 ⟨V, v0, turn, fin⟩ => ?_
  have gI : W.G (fun a => nf M O a ∨ H1 a = none) H1 := W.gen _ _ _ (fun a ha => ha) g1
  refine ⟨fun i m σ2 H2 => m = xs.length - i ∧ i ≤ xs.length ∧ ∃ O2 r2, V i O2 r2 ∧ Rp M O2 r2 σ2 H2 ∧ Stp M O H1 O2 H2, ⟨xs.length, by simp, Nat.zero_le _, O, r, v0, R1, .refl⟩, ?_⟩
  rintro i m σ2 H2 ⟨rfl, hi, O2, r2, hv, R2, s2⟩
  have s02 : Stp M O H O2 H2 := Stp.trans R1.inv (R1.stp e1) s2
  have g2 : W.G (fun a => nf M O a ∨ H1 a = none) H2 := W.mono _ _ _ (s2.1.wide fun a ha => .inl (ha.imp (M.f0 a) id)) gI
  by_cases hlt : i < xs.length
  · refine .inr ⟨W.go _ _ i g2 hlt, fun σ3 H3 => ∃ O3 r3, V (i + 1) O3 r3 ∧ Rp M O3 r3 σ3 H3 ∧ Stp M O H1 O3 H3, fun σ' H' p => ⟨xs.length - (i + 1), by omega, rfl, hlt, p⟩, fun x H3 y => ?_⟩
    have g2' : W.G (nf M O2) H2 := W.gen _ _ _ (fun a ha => .inl (by
      rcases ha with ha | ha
      · exact .inl (.inl ha)
      · exact (s2.2.1 a ha).imp .inr id)) g2
    obtain ⟨s3, p3⟩ := W.yld _ _ i x H3 _ (nf_tr R2) g2' y (List.getElem?_eq_getElem hlt)
    have R3 := R2.grow s3
    have s13 : Stp M O H1 O2 H3 := Stp.trans R2.inv s2 (R3.stp (sm_0 s3))
    refine turn i _ O2 r2 (List.getElem?_eq_getElem hlt) hv x _ H3 _ R3 p3 fun σ4 r4 R4 w4 q4 => ?_
    have back : ∀ {O5 : List Addr} {H5 : Hp}, Stp M O2 H3 O5 H5 → Stp M O H1 O5 H5 := fun s => Stp.trans R3.inv s13 s
    refine q4 σ4 H3 _ R4 ⟨fun O5 r5 σ5 H5 R5 s5 q5 => ⟨O5, r5, q5, R5, back s5⟩, fun v H5 d s1 i1 p1 q5 => z.rt v H5 d s1 i1 p1 q5, fun O5 r5 σ5 H5 R5 s5 q5 => ?_, fun O5 r5 σ5 H5 R5 s5 q5 => ⟨O5, r5, q5, R5, back s5⟩⟩
    exact z.nx O5 r5 σ5 H5 R5 (Stp.trans R1.inv (R1.stp e1) (back s5)) q5
  · have e : i = xs.length := by omega
    subst e
    exact .inl ⟨W.stop _ _ _ g2 (Nat.le_refl _), z.nx O2 r2 σ2 H2 R2 s02 (fin O2 r2 hv)⟩
/-- while, by a word over the slots and a measure -/
theorem ds_while {tc : TT} (V : List Addr → List Sl → Prop) (m : List Sl → Nat) (v0 : V O r) (turn : ∀ (O' : List Addr) (r' : List Sl), V O' r' → DT M tc O' r' fun b => if b = true then DS M tb O' r' { E with nx := fun O2 r2 => V O2 r2 ∧ m r2 < m r', ct := fun O2 r2 => V O2 r2 ∧ m r2 < m r', bk := E.nx } else E.nx O' r') : DS M (tWhile tc tb) O r E := fun σ H Z R0 z => by
  refine ⟨fun n σ2 H2 => ∃ O2 r2, n = m r2 ∧ V O2 r2 ∧ Rp M O2 r2 σ2 H2 ∧ Stp M O H O2 H2, ⟨m r, O, r, rfl, v0, R0, .refl⟩, ?_⟩
  rintro n σ2 H2 ⟨O2, r2, rfl, hv, R2, s2⟩
  refine turn O2 r2 hv σ2 H2 _ R2 fun b H3 R3 e3 q3 => ?_
  have s3 : Stp M O H O2 H3 := Stp.trans R2.inv s2 (R3.stp e3)
  cases b with
  | false =>
    rw [if_neg Bool.false_ne_true] at q3 ⊢
    exact z.nx O2 r2 σ2 H3 R3 s3 q3
  | true =>
    rw [if_pos rfl] at q3 ⊢
    refine ⟨fun σ5 H5 => ∃ O5 r5, (V O5 r5 ∧ m r5 < m r2) ∧ Rp M O5 r5 σ5 H5 ∧ Stp M O H O5 H5, fun σ5 H5 ⟨O5, r5, ⟨a, b⟩, c, d⟩ => ⟨m r5, b, O5, r5, rfl, a, c, d⟩, ?_⟩
    have back : ∀ {O5 : List Addr} {H5 : Hp}, Stp M O2 H3 O5 H5 → Stp M O H O5 H5 := fun s => Stp.trans R3.inv s3 s
    exact q3 σ2 H3 _ R3 ⟨fun O5 r5 σ5 H5 R5 s5 q5 => ⟨O5, r5, q5, R5, back s5⟩, fun v H5 d s1 i1 p1 q5 => z.rt v H5 d s1 i1 p1 q5, fun O5 r5 σ5 H5 R5 s5 q5 => z.nx O5 r5 σ5 H5 R5 (back s5) q5, fun O5 r5 σ5 H5 R5 s5 q5 => ⟨O5, r5, q5, R5, back s5⟩⟩
end
end Dw

/-! list(reversed(a list)): a rule over the library's walks. -/
namespace Dw
open PySem PySem.Spec PyProof.Rows L2
theorem lri_no_len : typeLookup (.type "list_reverseiterator") "__len__" = pure none := by rw [typeLookup_type, builtinLookup_eq_fast]; kernel_rfl
theorem lri_hint : typeLookup (.type "list_reverseiterator") "__length_hint__" = pure (some (.builtin "list_reverseiterator.__length_hint__")) := by rw [typeLookup_type, builtinLookup_eq_fast]; kernel_rfl
theorem lri_sub : isSubtype (.type "list_reverseiterator") (.type "list_reverseiterator") = pure true := by rw [isSubtype_type]; kernel_rfl
section
variable {prog : Program} {w : World} {A : Around} {s : Shared} {E : Value → Shared → Prop}
theorem hint_rev {I : Addr} {Q : Bool → Shared → Prop} (kindR : s.TypeIs (.ref I) "list_reverseiterator") (h : Q false s) : wpAny (model prog w) A (Builtin.List.listLengthHint (.ref I)) Q E s := by
  unfold Builtin.List.listLengthHint
  refine wpAny_bind (wpAny_specialOf kindR lri_no_len ?_)
  show wpAny _ A (specialOf (Value.ref I) (Str.ofString "__length_hint__") >>= _) _ _ _
  refine wpAny_bind (wpAny_specialOf kindR lri_hint ?_)
  generalize nm : ("list_reverseiterator.__length_hint__" : String) = nm0
  wp_delta
  rw [show splitId nm0 = some ("list_reverseiterator", "__length_hint__") from by subst nm; decide +kernel]
  subst nm
  refine wpAny_bind (wpAny_isInstance (T := "list_reverseiterator") (b := true) kindR lri_sub ?_)
  refine wpAny_ite_split (fun no => absurd no (by decide)) (fun _ => ?_)
  refine wpAny_ite_split (fun _ => ?_) (fun no => absurd (by decide +kernel) no)
  refine wpAny_ite_split (fun no => absurd no (by decide +kernel)) (fun _ => ?_)
  exact wpAny_pure h
variable {R : Result → Shared → Prop} {I : Addr} {fp wr : List Addr} {G : Array GenState → Array GenState → Prop} {n : Nat} {P : Nat → Value → Prop} {St : Nat → Shared → Prop}
theorem extend_rev (W : WalksS prog w A.in1 I fp wr G n P St) (kindR : ∀ i s, St i s → s.TypeIs (.ref I) "list_reverseiterator") (S : Addr) (res : Value) (c0 : Nat) (atS : St 0 s) (outF : S ∉ fp) (hI : I ∈ fp)
    (cell : s.heap.get? S = some { cls := .type "list", data := .seq #[] c0 })
    (hR : ∀ s' xs1 cp1, Moved (S :: wr) G s s' → s'.heap.get? S = some { cls := .type "list", dict := none, data := .seq xs1 cp1, slots := #[] } → ItemsOf P xs1 n → R (.ok (.ret res)) s') (hn : n ≤ sizeLine) :
    wpAny (model prog w) A.in1 (Builtin.List.listExtendWith (.ref S) (.ref I) res)
      (fun fin s' => match fin with | .done f => R (.ok f) s' | .again cp1 => cp1.quiet = true ∧ codeAny (model prog w) A cp1 R s') (fun e s' => R (.error e) s') s := by
  have nIn : S ≠ I := fun e => outF (e ▸ hI)
  unfold Builtin.List.listExtendWith
  refine wpAny_bind (wpAny_typeOf (kindR 0 _ atS) ?_)
  have e1q : Builtin.List.listSameRef (.ref S) (.ref I) = false := by simp [Builtin.List.listSameRef, nIn]
  have e2q : (Value.type "list_reverseiterator" == Value.type "list") = false := by decide
  have e3q : (Value.type "list_reverseiterator" == Value.type "tuple") = false := by decide
  simp only [e1q, e2q, e3q, Bool.or_false, Bool.false_eq_true, if_false]
  refine wpAny_bind (W.self 0 _ _ _ atS ?_)
  refine wpAny_bind (wpAny_holding (hint_rev (kindR 0 _ atS) ?_))
  refine wpAny_pure ⟨plainId_quiet F.plain_extend_loop _, codeAny_extend_loopS W hn S outF res n 0 s #[] c0 rfl (Nat.zero_le _) atS cell (ItemsOf.nil P) fun s' xs1 cp1 hm cell1 got => ?_⟩
  exact hR s' xs1 cp1 hm cell1 got
theorem list_init_rev (W : WalksS prog w A.in1 I fp wr G n P St) (kindR : ∀ i s, St i s → s.TypeIs (.ref I) "list_reverseiterator") (S : Addr) (atS : St 0 s) (outF : S ∉ fp) (hI : I ∈ fp)
    (cell : s.heap.get? S = some { cls := .type "list", data := .seq #[] })
    (hR : ∀ s' xs1 cp1, Moved (S :: wr) G s s' → s'.heap.get? S = some { cls := .type "list", dict := none, data := .seq xs1 cp1, slots := #[] } → ItemsOf P xs1 n → R (.ok (.ret .none)) s') (hn : n ≤ sizeLine) :
    wpAny (model prog w) A.in1 (Builtin.«list.__init__» ⟨[.ref S, .ref I], []⟩)
      (fun fin s' => match fin with | .done f => R (.ok f) s' | .again cp1 => cp1.quiet = true ∧ codeAny (model prog w) A cp1 R s') (fun e s' => R (.error e) s') s := by
  show wpAny _ A.in1 (do let old ← Builtin.List.listItems (.ref S); Builtin.List.listUpdate (.ref S) (fun _ => #[]); letGo old.toList.reverse; Builtin.List.listExtendWith (.ref S) (.ref I) .none) _ _ s
  refine wpAny_bind ?_
  unfold Builtin.List.listItems
  refine wpAny_bind (wpAny_seqItems cell rfl (wpAny_pure ?_))
  show wpAny _ A.in1 (updateSeq S (fun _ => #[]) >>= fun _ => letGo (#[] : Array Value).toList.reverse >>= fun _ => Builtin.List.listExtendWith (.ref S) (.ref I) .none) _ _ s
  refine wpAny_bind (wpAny_updateSeq cell rfl ?_)
  have cell2 := Heap.get?_update_self (Obj.mapSeq (fun _ => (#[] : Array Value))) cell rfl
  have rest : ∀ b o, b ≠ S → s.heap.get? b = some o → (s.heap.update S (Obj.mapSeq (fun _ => (#[] : Array Value)))).get? b = some o :=
    fun b o hb e => (Heap.get?_update_other _ _ (Ne.symm hb)).trans e
  refine wpAny_bind (wpAny_letGo ?_)
  refine extend_rev W kindR S .none _ (W.frame 0 s _ s.toks atS (Nat.le_refl _) fun b hb o e => rest b o (fun h => outF (h ▸ hb)) e) outF hI cell2 (fun s' xs1 cp1 hm cell1 got => ?_) hn
  exact hR s' xs1 cp1 (Moved.trans W.gtrans ((Moved.refl W.grefl).then_heap (Nat.le_refl _) fun b o hb e => rest b o (fun h => hb (h ▸ List.mem_cons_self)) e) hm) cell1 got
end
section
variable {prog : Program} {w : World} {A : Around} {s : Shared} {E : Value → Shared → Prop}
variable {I : Addr} {fp wr : List Addr} {G : Array GenState → Array GenState → Prop} {n : Nat} {P : Nat → Value → Prop} {St : Nat → Shared → Prop}
theorem call_list_revW {Q : Value → Shared → Prop} (W : WalksS prog w A.in1.in1 I fp wr G n P St) (kindR : ∀ i s, St i s → s.TypeIs (.ref I) "list_reverseiterator") (atS : St 0 s) (below : ∀ b ∈ fp, b < s.heap.objs.size) (hI : I ∈ fp)
    (hQ : ∀ s' xs1 cp1, Moved (s.heap.objs.size :: wr) G { s with heap := s.heap.push { cls := .type "list", data := .seq #[] } } s' →
      s'.heap.get? s.heap.objs.size = some { cls := .type "list", dict := none, data := .seq xs1 cp1, slots := #[] } → ItemsOf P xs1 n → Q (.ref s.heap.objs.size) s') (hn : n ≤ sizeLine) :
    wpAny (model prog w) A (call (.type "list") [.ref I]) Q E s := by
  have outF : s.heap.objs.size ∉ fp := fun hm => Nat.lt_irrefl _ (below _ hm)
  refine callType_codes (Q₁ := fun obj s1 => obj = .ref s.heap.objs.size ∧ s1 = { s with heap := s.heap.push { cls := .type "list", data := .seq #[] } }) F.called_list (F.typeCall_list_1 _) F.entry_list_init
    (code_list_new _ ⟨rfl, rfl⟩) fun obj s1 e1q => ?_
  obtain ⟨rfl, rfl⟩ := e1q
  have cell : (s.heap.push { cls := .type "list", data := .seq #[] }).get? s.heap.objs.size = some { cls := .type "list", data := .seq #[] } := Heap.get?_push_size _ rfl
  refine ⟨⟨_, cell, rfl⟩, F.args_list_init_2 _ _, list_init_rev W kindR _ (W.frame 0 s _ s.toks atS (Nat.le_refl _) fun b _ o e => Heap.get?_push_of_some _ e) outF hI cell (fun s' xs1 cp1 hm cell1 got => ?_) hn⟩
  exact ⟨rfl, hQ s' xs1 cp1 hm cell1 got⟩
/-- list of a reverse iterator over a list -/
theorem call_list_rev {it l : Addr} {items : Array Value} {Q : Value → Shared → Prop} (hh : A.handled = none) (hit : s.heap.IsRevIter it l ((items.size : Int) - 1)) (hl : s.heap.IsList l items) (hne : l ≠ it) (hn : items.size ≤ sizeLine)
    (hQ : ∀ (h' : Heap) (tk : Nat) (acc : Array Value) (c : Nat), (∀ b o, b ≠ it → s.heap.get? b = some o → h'.get? b = some o) → h'.get? s.heap.objs.size = some { cls := .type "list", dict := none, data := .seq acc c, slots := #[] } →
      ItemsOf (fun i v => items[items.size - 1 - i]? = some v) acc items.size → Q (.ref s.heap.objs.size) { s with heap := h', toks := tk }) :
    wpAny (model prog w) A (call (.type "list") [.ref it]) Q E s := by
  have W := (Walks.listRev (prog := prog) (w := w) (A := A.in1.in1) hh it l hne items).toS
  obtain ⟨o1, ho1, _⟩ := id hit
  obtain ⟨o2, ho2, _⟩ := id hl
  refine call_list_revW W (fun i s h => h.2.1.typeIs) ⟨Nat.zero_le _, ?_, hl⟩ (fun b hb => ?_) (by simp) (fun s' xs1 cp1 hm cell1 got => ?_) hn
  · simpa using hit
  · rcases List.mem_cons.mp hb with rfl | hb
    · exact Heap.lt_size ho1
    · rw [List.mem_singleton.mp hb]
      exact Heap.lt_size ho2
  · obtain ⟨hp, g, d, tk, os⟩ := s'
    have e1 : g = s.gens := hm.gens
    have e2 : d = s.drawn := hm.drawn
    have e3 : os = s.os := hm.os
    subst e1 e2 e3
    refine hQ hp tk xs1 cp1 (fun b o hb e => ?_) cell1 got
    refine hm.heap b o (fun inM => ?_) (Heap.get?_push_of_some _ e)
    rcases List.mem_cons.mp inM with e' | inM
    · exact absurd (Heap.lt_size e) (by rw [e']; exact Nat.lt_irrefl _)
    · exact hb (List.mem_singleton.mp inM)
end
section
variable {X : Cx}
def tListRev (K : PySem.W.Frag) (te : TE) : TE := fun σ H Q => te σ H fun v H1 => ∃ (a : Addr) (xs : List V), v = .ref a ∧ SqL K H1 a xs ∧ ∀ q, H1 q = none → Q (.ref q) (upd H1 q (.lst xs.reverse))
/-- list(reversed(x)), x a list: a new list -/
theorem pe_listRev {e : Expr} {te : TE} {p p2 pos pos2 : Pos} (hc : X.calm = true) (hg : Gl X "list") (hm : X.mg "list" = none) (hg2 : Gl X "reversed") (hm2 : X.mg "reversed" = none) (he : PE X e te)
    (hs : starEach [e] X.env = (false, eval e X.env) :: starEach [] X.env := by rfl)
    (hs2 : starEach [.Call (.Name "reversed" p2) [e] [] pos2] X.env = (false, eval (.Call (.Name "reversed" p2) [e] [] pos2) X.env) :: starEach [] X.env := by rfl) :
    PE X (.Call (.Name "list" p) [.Call (.Name "reversed" p2) [e] [] pos2] [] pos) (tListRev X.K te) := by
  refine ⟨fun pins s σ H Q I h => ?_⟩
  refine Call_ (ld_blt I hg hm boot_list (PyProof.Rows.callWith_type1 (args_cons (Call_ (ld_blt I hg2 hm2 PyProof.Rows.boot_reversed (PyProof.Rows.callWith_type1 (args_cons (thn (he.run pins s σ H _ I h) fun u s1 ⟨v, H1, I1, r1, q1⟩ => args_nil ?_) hs) hs rfl))) hs2) hs2 rfl))
  obtain ⟨a, xs, ev, hq, q⟩ := q1
  subst ev
  obtain rfl : u = Value.ref a := r1
  obtain ⟨its, rv, p', hz⟩ := I1.list hq
  refine call_reversed_list p'.isList (args_nil ?_)
  have k0 : ∀ b o, s1.heap.get? b = some o → (s1.heap.push (revObj a ((its.toArray.size : Int) - 1))).get? b = some o := fun b o e => Heap.get?_push_of_some _ e
  have I2 : Inv X pins σ H1 { s1 with heap := s1.heap.push (revObj a ((its.toArray.size : Int) - 1)) } := I1.kept (t' := s1.toks) k0
  obtain ⟨f0, f1, f2, f3, f4, f5⟩ := I1.fpOk (H' := H1) (b := s1.heap.objs.size) (Nat.le_refl _) (I1.hok.fresh (Nat.le_refl _))
  have hl := p'.isList
  obtain ⟨ol, hol, _⟩ := id hl
  have hne : a ≠ s1.heap.objs.size := Nat.ne_of_lt (Heap.lt_size hol)
  have hn : its.toArray.size ≤ sizeLine := by rw [List.size_toArray, ← rv.length]; exact hz
  refine call_list_rev (s := { s1 with heap := s1.heap.push (revObj a ((its.toArray.size : Int) - 1)) }) (I1.ok.hd hc) ⟨_, Heap.get?_push_size _ rfl, rfl, rfl⟩ (hl.push _) hne hn fun h' tk acc c hk cell hi => ?_
  generalize hN : (s1.heap.push (revObj a ((its.toArray.size : Int) - 1))).objs.size = N at cell
  have hlt : s1.heap.objs.size < N := by
    rw [← hN, Heap.size_push]
    exact Nat.lt_succ_self _
  have nN : H1 N = none := I2.hok.fresh (by rw [← hN]; exact Nat.le_refl _)
  have I3 := I2.laid (a := N) (o := .lst xs.reverse) (h' := (s1.heap.push (revObj a ((its.toArray.size : Int) - 1))).push { cls := .type "list", data := .seq acc c }) (t' := tk) (fun b o e => Heap.get?_push_of_some _ e) (by rw [← hN]; exact Nat.le_refl _)
    (show ObjOk X.prog X.w _ _ _ (.lst xs.reverse) from ⟨by rw [List.length_reverse]; exact hz, acc.toList, c, RT.vals_rev rv hi, by
      rw [Array.toArray_toList, ← hN]
      exact Heap.get?_push_size _ rfl⟩)
  have I4 : Inv X pins σ (upd H1 N (.lst xs.reverse)) { s1 with heap := h', toks := tk } := Inv.turned (s := { s1 with heap := (s1.heap.push (revObj a ((its.toArray.size : Int) - 1))).push { cls := .type "list", data := .seq acc c }, toks := tk }) I3 (t' := tk) (it := s1.heap.objs.size) (fun b o hb e => by
    rcases Heap.get?_push_cases (show ((s1.heap.push (revObj a ((its.toArray.size : Int) - 1))).push { cls := .type "list", data := .seq acc c }).get? b = some o from e) with ⟨e1q, e2q⟩ | e1q
    · rw [e1q, e2q, hN]
      exact cell
    · exact hk b o hb e1q) (by rw [upd_ne (Nat.ne_of_lt hlt)]; exact f0) f1 f3 f4 f5
  have fin : EP X pins σ Q (.ref N) { s1 with heap := h', toks := tk } := ⟨.ref N, upd H1 N (.lst xs.reverse), I4, rfl, q N nN⟩
  rw [← hN] at fin ⊢
  exact fin
end
end Dw

namespace Dw
open PySem PySem.Spec PyProof.Rows L2
section
variable {M : Md} {O : List Addr} {r : List Sl} {k : D → Prop} {ta tb te : TE} {tl : TA}
/-! ### slices -/
def cutD (xs : List D) (lo hi : Option Int) : List D := (xs.drop (HT.sIx xs.length 0 lo)).take (HT.sIx xs.length xs.length hi - HT.sIx xs.length 0 lo)
theorem cutD_len (xs : List D) (lo hi : Option Int) : (cutD xs lo hi).length ≤ xs.length := by
  unfold cutD
  rw [List.length_take, List.length_drop]
  omega
def DO (M : Md) (to : TO) (O : List Addr) (r : List Sl) (k : Option Int → Prop) : Prop :=
  ∀ σ H (Q : Option Int → Hp → Prop), Rp M O r σ H → (∀ o H', Rp M O r σ H' → Sm M.F0 H H' → k o → Q o H') → to σ H Q
theorem do_none {k : Option Int → Prop} (h : k none) : DO M tNoPart O r k := fun σ H Q R z => z none H R .refl h
theorem do_some {k : Option Int → Prop} (h : De M te O r fun x => ∃ i, x = .int i ∧ k (some i)) : DO M (tPart te) O r k := fun σ H Q R z => h σ H _ R fun v H1 x R1 e1 p1 q => by
  obtain ⟨i, rfl, q⟩ := q
  exact ⟨i, p1, z _ H1 R1 e1 q⟩
theorem cut_rep {K : PySem.W.Frag} {N : No} {H : Hp} {xs : List D} {vs : List V} (h : RepL K N H xs vs) (lo hi : Option Int) : RepL K N H (cutD xs lo hi) (cutV vs lo hi) := by
  unfold cutD cutV
  rw [← h.length]
  exact (h.drop _).take _
theorem de_slL {lo hi : TO} (h : De M te O r fun x => ∃ xs, x = .lst xs ∧ DO M lo O r fun i => DO M hi O r fun j => k (.lst (cutD xs i j))) : De M (tSl (rSlL M.K) te lo hi) O r k := fun σ H Q R z => h σ H _ R fun v H1 x R1 e1 p1 q => by
  obtain ⟨xs, rfl, q⟩ := q
  refine q σ H1 _ R1 fun i H2 R2 e2 q2 => q2 σ H2 _ R2 fun j H3 R3 e3 q3 => ?_
  obtain ⟨a, vs, rfl, h1, h2⟩ := (p1.step e2).step e3
  exact ⟨a, vs, rfl, h1.sq, fun p hp => z _ _ _ (R3.grow (sm_new hp)) (((e1.trans e2).trans e3).trans (sm_0 (sm_new hp))) (rep_lst R3 hp (cut_rep h2 i j)) q3⟩
/-! ### operators over lists -/
theorem de_ixL (h : De M ta O r fun x => De M tb O r fun y => ∃ xs i d, x = .lst xs ∧ y = .int i ∧ atI xs i = some d ∧ k d) : De M (tOp (rIxL M.K) ta tb) O r k := de_op2 h fun x y c σ H v u Q R pv pu z => by
  obtain ⟨xs, i, d, rfl, rfl, e, q⟩ := c
  obtain ⟨a, vs, rfl, h1, h2⟩ := pv
  obtain ⟨j, e1, e2, _⟩ := atI_get e
  obtain ⟨w, e3, e4⟩ := h2.get e2
  refine ⟨a, vs, i, w, rfl, pu, h1.sq, ?_, z w H d R .refl e4 q⟩
  unfold atI at e ⊢
  rw [← h2.length]
  cases e5 : ixN xs.length i with
  | none =>
    rw [e5] at e
    cases e
  | some m =>
    rw [e5] at e
    have e6 : xs[m]? = some d := e
    obtain ⟨e7, _⟩ := ixN_seq e5
    rw [e1] at e7
    cases e7
    exact e3
theorem de_ixT (h : De M ta O r fun x => De M tb O r fun y => ∃ xs i d, x = .tup xs ∧ y = .int i ∧ atI xs i = some d ∧ k d) : De M (tOp (rIxT M.K) ta tb) O r k := de_op2 h fun x y c σ H v u Q R pv pu z => by
  obtain ⟨xs, i, d, rfl, rfl, e, q⟩ := c
  obtain ⟨a, vs, rfl, h1, h2⟩ := pv
  obtain ⟨j, e1, e2, _⟩ := atI_get e
  obtain ⟨w, e3, e4⟩ := h2.get e2
  refine ⟨a, vs, i, w, rfl, pu, h1.sq, ?_, z w H d R .refl e4 q⟩
  unfold atI at e ⊢
  rw [← h2.length]
  cases e5 : ixN xs.length i with
  | none =>
    rw [e5] at e
    cases e
  | some m =>
    rw [e5] at e
    have e6 : xs[m]? = some d := e
    obtain ⟨e7, _⟩ := ixN_seq e5
    rw [e1] at e7
    cases e7
    exact e3
theorem lat_trk {K : PySem.W.Frag} {N : No} {H : Hp} {a : Addr} {vs : List V} (h : LAt K N H a vs) (n : ¬ SqL K H00 a vs) : Rd H a (.lst vs) := h.elim (fun z => z.2) fun z => (n z).elim
/-! ### built-ins -/
theorem de_len1 {f : List V → Hp → VK → Prop} (hf : ∀ (H : Hp) (a : Addr) (vs : List V) (Q : VK), (SqL M.K H a vs ∨ SqT M.K H a vs) → Q (.int vs.length) H → f [.ref a] H Q) (h : De M te O r fun x => ∃ xs, (x = .lst xs ∨ x = .tup xs) ∧ k (.int xs.length)) :
    De M (tCB f (tCons te tNil)) O r k := fun σ H Q R z => h σ H _ R fun v H1 x R1 e1 p1 q => by
  obtain ⟨xs, c, q⟩ := q
  rcases c with rfl | rfl
  · obtain ⟨a, vs, rfl, h1, h2⟩ := p1
    refine hf H1 a vs Q (.inl h1.sq) ?_
    rw [← h2.length]
    exact z _ H1 (.int xs.length) R1 e1 rfl q
  · obtain ⟨a, vs, rfl, h1, h2⟩ := p1
    refine hf H1 a vs Q (.inr h1.sq) ?_
    rw [← h2.length]
    exact z _ H1 (.int xs.length) R1 e1 rfl q
theorem de_len (h : De M te O r fun x => ∃ xs, (x = .lst xs ∨ x = .tup xs) ∧ k (.int xs.length)) :
    De M (tCB (fun xs H Q => ∃ p ys, xs = [.ref p] ∧ (SqL M.K H p ys ∨ SqT M.K H p ys) ∧ Q (.int ys.length) H) (tCons te tNil)) O r k :=
  de_len1 (fun H a vs Q h q => ⟨a, vs, rfl, h, q⟩) h
theorem de_lenS (h : De M te O r fun x => ∃ s : Str, x = .str s ∧ s.length ≤ sizeLine ∧ k (.int s.length)) :
    De M (tCB (fun xs H Q => ∃ z, xs = [.str z] ∧ z.length ≤ sizeLine ∧ Q (.int z.length) H) (tCons te tNil)) O r k := fun σ H Q R z => h σ H _ R fun v H1 x R1 e1 p1 q => by
  obtain ⟨s, rfl, hs, q⟩ := q
  have e : v = .str s := p1
  subst e
  exact ⟨s, rfl, hs, z _ H1 (.int s.length) R1 e1 rfl q⟩
theorem de_listOf (h : De M te O r fun x => ∃ xs, (x = .lst xs ∨ x = .tup xs) ∧ k (.lst xs)) :
    De M (tCB (fun xs H Q => ∃ p ys, xs = [.ref p] ∧ (SqL M.K H p ys ∨ SqT M.K H p ys) ∧ ∀ l, H l = none → Q (.ref l) (upd H l (.lst ys))) (tCons te tNil)) O r k := fun σ H Q R z => h σ H _ R fun v H1 x R1 e1 p1 q => by
  obtain ⟨xs, c, q⟩ := q
  rcases c with rfl | rfl
  · obtain ⟨a, vs, rfl, h1, h2⟩ := p1
    exact ⟨a, vs, rfl, .inl h1.sq, fun p hp => z _ _ (.lst xs) (R1.grow (sm_new hp)) (e1.trans (sm_0 (sm_new hp))) (rep_lst R1 hp h2) q⟩
  · obtain ⟨a, vs, rfl, h1, h2⟩ := p1
    exact ⟨a, vs, rfl, .inr h1.sq, fun p hp => z _ _ (.lst xs) (R1.grow (sm_new hp)) (e1.trans (sm_0 (sm_new hp))) (rep_lst R1 hp h2) q⟩
theorem de_tupleOf (h : De M te O r fun x => ∃ xs, (x = .lst xs ∨ x = .tup xs) ∧ k (.tup xs)) :
    De M (tCB (fun xs H Q => ∃ p ys, xs = [.ref p] ∧ ((SqL M.K H p ys ∧ ∀ l, H l = none → Q (.ref l) (upd H l (.tup ys))) ∨ (SqT M.K H p ys ∧ Q (.ref p) H))) (tCons te tNil)) O r k := fun σ H Q R z => h σ H _ R fun v H1 x R1 e1 p1 q => by
  obtain ⟨xs, c, q⟩ := q
  rcases c with rfl | rfl
  · obtain ⟨a, vs, rfl, h1, h2⟩ := p1
    exact ⟨a, vs, rfl, .inl ⟨h1.sq, fun p hp => z _ _ (.tup xs) (R1.grow (sm_new hp)) (e1.trans (sm_0 (sm_new hp))) (rep_tup R1 hp h2) q⟩⟩
  · obtain ⟨a, vs, rfl, h1, h2⟩ := p1
    exact ⟨a, vs, rfl, .inr ⟨h1.sq, z _ H1 (.tup xs) R1 e1 ⟨a, vs, rfl, h1, h2⟩ q⟩⟩
theorem de_listRev (h : De M te O r fun x => ∃ xs, x = .lst xs ∧ k (.lst xs.reverse)) : De M (tListRev M.K te) O r k := fun σ H Q R z => h σ H _ R fun v H1 x R1 e1 p1 q => by
  obtain ⟨xs, rfl, q⟩ := q
  obtain ⟨a, vs, rfl, h1, h2⟩ := p1
  exact ⟨a, vs, rfl, h1.sq, fun p hp => z _ _ (.lst xs.reverse) (R1.grow (sm_new hp)) (e1.trans (sm_0 (sm_new hp))) (rep_lst R1 hp h2.reverse) q⟩
theorem de_max2 (h : De M ta O r fun x => De M tb O r fun y => ∃ i j, x = .int i ∧ y = .int j ∧ k (.int (if j > i then j else i))) :
    De M (tCB (fun xs H Q => ∃ i j, xs = [V.int i, V.int j] ∧ Q (.int (if j > i then j else i)) H) (tCons ta (tCons tb tNil))) O r k := fun σ H Q R z => h σ H _ R fun v H1 x R1 e1 p1 q => q σ H1 _ R1 fun u H2 y R2 e2 p2 q2 => by
  obtain ⟨i, j, rfl, rfl, q2⟩ := q2
  have a1 : v = .int i := p1
  have a2 : u = .int j := p2
  subst a1 a2
  exact ⟨i, j, rfl, z _ H2 (.int (if j > i then j else i)) R2 (e1.trans e2) rfl q2⟩
theorem de_any (h : De M te O r fun x => ∃ bs : List Bool, x = .lst (bs.map D.bl) ∧ k (.bl (bs.any id))) : De M (tCB (rAny M.K) (tCons te tNil)) O r k := fun σ H Q R z => h σ H _ R fun v H1 x R1 e1 p1 q => by
  obtain ⟨bs, rfl, q⟩ := q
  obtain ⟨a, vs, rfl, h1, h2⟩ := p1
  rw [repL_bls h2] at h1
  exact ⟨a, bs, rfl, h1.sq, z _ H1 (.bl (bs.any id)) R1 e1 rfl q⟩
theorem de_all (h : De M te O r fun x => ∃ bs : List Bool, x = .lst (bs.map D.bl) ∧ k (.bl (bs.all id))) : De M (tCB (rAll M.K) (tCons te tNil)) O r k := fun σ H Q R z => h σ H _ R fun v H1 x R1 e1 p1 q => by
  obtain ⟨bs, rfl, q⟩ := q
  obtain ⟨a, vs, rfl, h1, h2⟩ := p1
  rw [repL_bls h2] at h1
  exact ⟨a, bs, rfl, h1.sq, z _ H1 (.bl (bs.all id)) R1 e1 rfl q⟩
theorem de_sum (h : De M te O r fun x => ∃ bs : List Int, x = .lst (bs.map D.int) ∧ k (.int bs.sum)) : De M (tCB (rSum M.K) (tCons te tNil)) O r k := fun σ H Q R z => h σ H _ R fun v H1 x R1 e1 p1 q => by
  obtain ⟨bs, rfl, q⟩ := q
  obtain ⟨a, vs, rfl, h1, h2⟩ := p1
  rw [repL_ints h2] at h1
  exact ⟨a, bs, rfl, h1.sq, z _ H1 (.int bs.sum) R1 e1 rfl q⟩
theorem dt_yes {kt : Bool → Prop} (h : kt true) : DT M tYes O r kt := fun σ H Q R z => z true H R .refl h
/-- a statement told over data, then the rest by hand -/
theorem raw_seq {ts tz : TS} {σ : L2.St} {H : Hp} {Z : Ends} (E : List Addr → List Sl → Prop) (R : Rp M O r σ H) (h : DS M ts O r { nx := E, rt := fun _ => False })
    (q : ∀ O1 r1 σ1 H1, Rp M O1 r1 σ1 H1 → Stp M O H O1 H1 → E O1 r1 → tz Z σ1 H1) : tSeq ts tz Z σ H :=
  h σ H _ R ⟨fun O1 r1 σ1 H1 R1 s1 q1 => q O1 r1 σ1 H1 R1 s1 q1, fun _ _ _ _ _ _ z => z.elim, fun _ _ _ _ _ _ z => z.elim, fun _ _ _ _ _ _ z => z.elim⟩
theorem ints_of {P : Int → Prop} : ∀ {ys : List D}, (∀ (i : Nat) y, ys[i]? = some y → ∃ n, y = .int n ∧ P n) → ∃ ms : List Int, ys = ms.map D.int ∧ ∀ m ∈ ms, P m
  | [], _ => ⟨[], rfl, fun _ h => nomatch h⟩
  | y :: ys, h => by
    obtain ⟨n, e, p⟩ := h 0 y rfl
    obtain ⟨ms, e2, p2⟩ := ints_of (ys := ys) fun i y hy => h (i + 1) y hy
    refine ⟨n :: ms, by rw [e, e2]; rfl, fun m hm => ?_⟩
    rcases List.mem_cons.mp hm with rfl | hm
    · exact p
    · exact p2 m hm
end
end Dw

/-! defs that are called where nothing is being shown by repr: FnG; their bodies, their calls, a law's end. -/
namespace Dw
open PySem PySem.Spec PyProof.Rows L2
structure FnG (P : Program) (w : World) (K : PySem.W.Frag) (mg : Str → Option Value) (base : Heap) (k : Nat) (f : Addr) (fd : FuncData) (ps : List Str) (sp : Sp) : Prop where
  len : ∀ vs H Q E, sp vs H Q E → vs.length = ps.length
  run : ∀ (A : Around) (outer : List Env) (s : Shared) (H : Hp) (args : Args) (us : List Value) (vs : List V) (Q : VK) (E : XK),
    A.guards = some [] → Room k A → Env0 P w K mg base A outer s H → BindsTo s fd args (ps.zip us) → Vals vs us → sp vs H Q E → codeAny (model P w) A (.call (.ref f) args) (CR CX0 outer P w H s Q E) s
section
variable {P : Program} {w : World} {K : PySem.W.Frag} {mg : Str → Option Value} {base : Heap}
theorem fng_of {x qual : Str} {st : Stmt} {f : Addr} {fd : FuncData} {N ps : List Str} {k : Nat} {sp : Sp} (F : Fun K x qual st f fd) (T : FnScope N ps (defScope st)) (len : ∀ vs H Q E, sp vs H Q E → vs.length = ps.length)
    (bd : ∀ (cdv : Value) (A : Around) (outer : List Env) (s : Shared) (H : Hp) (vs : List V) (Q : VK) (E : XK), A.guards = some [] → Room k (A.deeper (envOfC qual (defScope st) s.heap.objs.size f cdv)) → sp vs H Q E →
      ∃ t, PSs (cxOf CX0 P w K mg base N qual (defScope st) f cdv A outer s H E).nox (defBody st) t ∧ t { nx := fun _ H' => Q .non H', rt := Q } (L2.start N vs) H) : FnG P w K mg base (k + 1) f fd ps sp := by
  obtain ⟨oc, od, kV, doc, pm, an, cdv, ct, osl, rfl, lk, hcd⟩ := F.ex
  constructor
  · exact len
  · intro A outer s H args us vs Q E hg hr e0 hb r hsp
    have keep : ∀ b o, base.get? b = some o → s.heap.get? b = some o := fun b o e => (e0.bs b o e).1
    have KX := e0.mod.kin.keeps keep
    have lim := e0.mod.nolimit.keeps keep
    have kinds : ∀ y ∈ ps.zip us, (defScope st).names.lookup y.1 = some .local ∨
        ((defScope st).names.lookup y.1 = some .cell ∧ ((cellsFrom (s.heap.objs.size + 1) (defScope st).names []).lookup y.1).isSome = true) := by
      rintro ⟨n, v⟩ hy
      refine (T.par n (List.of_mem_zip hy).1).imp id fun q => ⟨q, ?_⟩
      exact PySem.W.cellsFrom_some _ _ _ (.inl q)
    have hlen := len _ _ _ _ hsp
    refine codeAny_call_function hr.depth (KX _ _ lk) rfl T.co T.gen rfl (PySem.W.codeRec_of KX hcd)
      (hb _ _ _ _ (wpAny_newFunctionEnv_cells T.kind kinds fun env he s1 x => ?_))
    subst he
    obtain ⟨t, ht, hq⟩ := bd cdv A outer s H vs Q E hg (hr.deeper _) hsp
    have I0 := inv_start (CX := CX0) (P := P) (mg := mg) (E := E) T hr.hd e0 hlen r x
    refine ⟨lim.keeps x.toInCall.keep, codeAny_func (wpAny_mono (ht.nox.run [] s1 (L2.start N vs) H _ I0 hq)
      (fun fl s' hs => ?_) (fun e s' hs => hs))⟩
    match fl, hs with
    | .ret u, ⟨v, σ', H', J, rv, q⟩ => exact ⟨v, H', J.os, J.bare, J.base, J.hok, rv, q⟩
    | .next, ⟨σ', H', J, q⟩ => exact ⟨.non, H', J.os, J.bare, J.base, J.hok, rfl, q⟩
    | .brk, ⟨_, _, _, q⟩ => exact q.elim
    | .cont, ⟨_, _, _, q⟩ => exact q.elim
theorem FnOk.g {k : Nat} {f : Addr} {fd : FuncData} {ps : List Str} {sp : Sp} (F : FnOk P w K mg base CX0 k f fd ps sp) : FnG P w K mg base k f fd ps sp :=
  ⟨F.len, fun A outer s H args us vs Q E _ hr => F.run A outer s H args us vs Q E hr⟩
theorem FnG.mono {j k : Nat} {f : Addr} {fd : FuncData} {ps : List Str} {sp : Sp} (F : FnG P w K mg base j f fd ps sp) (h : j ≤ k) : FnG P w K mg base k f fd ps sp :=
  ⟨F.len, fun A outer s H args us vs Q E hg hr => F.run A outer s H args us vs Q E hg (hr.mono h)⟩
end
section
variable {X : Cx} {k : Nat} {f : Addr} {fd : FuncData} {ps : List Str} {sp : Sp} {E : XK} {x : Str} {p pos : Pos} {e : Expr} {es : List Expr} {t : TA}
theorem run_g {pins : List (Addr × Obj)} {σ : L2.St} {H : Hp} {s : Shared} {Q : VK} {us : List Value} {vs : List V} (F : FnG X.prog X.w X.K X.mg X.base k f fd ps sp) (hg : X.A.guards = some []) (hr : Room k X.A) (hb : Binds X.K fd ps [])
    (I : Inv X pins σ H s) (r : Vals vs us) (h : sp vs H Q E) : wpAny (model X.prog X.w) X.A (call (.ref f) us) (EP X pins σ Q) X.xe s := by
  have hl : us.length = ps.length := by rw [← r.length]; exact F.len _ _ _ _ h
  have bb := hb s us I.kIn (by rw [List.append_nil]; exact hl)
  rw [List.append_nil] at bb
  refine wpAny_call (codeAny_mono (F.run X.A X.stack s H ⟨us, []⟩ us vs Q E hg hr I.env0 bb r h) fun r s' hq => ?_)
  match r, hq with
  | .ok (.ret u), hq => exact I.after hq
  | .ok .next, hq => exact False.elim hq
  | .ok .brk, hq => exact False.elim hq
  | .ok .cont, hq => exact False.elim hq
  | .error e, hq => exact False.elim hq
theorem pe_callG (F : FnG X.prog X.w X.K X.mg X.base k f fd ps sp) (gd : X.A.guards = some []) (hr : Room k X.A) (hg : Gl X x) (hm : X.mg x = some (.ref f)) (hk : PySem.W.keepIn X.K (.ref f) = true) (hb : Binds X.K fd ps [])
    (ha : PA X (e :: es) t) (hdb : (x == ("__debug__" : Str)) = false := by decide) (he : starEach (e :: es) X.env = (false, eval e X.env) :: starEach es X.env := by rfl) (hpl : (backTo pos (starEach es X.env)).any (·.1) = false := by rfl) :
    PE X (.Call (.Name x p) (e :: es) [] pos) (tCall sp [] E t) := ⟨fun pins s σ H Q I h =>
  wpAny_Call_Name_kw (ld_glob I hg hm (PySem.W.callWith_K (h₀ := X.base) I.ok.mod.kin hk
    (thn (ha.run pos pins s σ H _ I h) fun us s1 ⟨vs, H1, I1, r, q⟩ => ⟨I1.kIn, run_g F gd hr hb I1 r (show sp vs H1 Q E from by
      have q2 : sp (vs ++ []) H1 Q E := q
      rw [List.append_nil] at q2
      exact q2)⟩) he hpl) hdb)⟩
end
/-- a law's call, from the promise of its def -/
theorem law_g {P : Program} {w : World} {K : PySem.W.Frag} {mg mb : Str → Option Value} {k : Nat} {fa a : Addr} {fd : FuncData} {x : Str} {sp : Sp} {s1 : Shared} {vs : List Value} {ns : List Int}
    (KX : K.In s1.heap) (hns : s1.heap.Ns mainGlobals mg) (hb : s1.heap.Ns builtinsNs mb) (hbb : ∀ x : Str, x ≠ "__name__" → mb x = bootBuiltins x) (hlim : s1.heap.NoLimit) (hg : s1.gens = #[])
    (ha : s1.heap.get? a = some { cls := .type "list", data := .seq vs.toArray }) (hi : IntsAre vs ns) (hl : ns.length ≤ sizeLine) (hr : Room k callerA)
    (F : ∀ base : Heap, K.In base → base.Ns mainGlobals mg → FnG P w K mg base k fa fd [x] sp) (hbind : ∀ (s : Shared) (u : Value), BindsTo s fd ⟨[u], []⟩ [(x, u)])
    (hsp : ∀ H : Hp, Only H → SqL K H a (ns.map V.int) → sp [.ref a] H (fun v _ => v = .bl true) fun _ _ _ => False) :
    codeAny (model P w) callerA (.call (.ref fa) ⟨[.ref a], []⟩) (fun r s' => r = .ok (.ret (.bool true)) ∧ OldK s1.heap s'.heap ∧ s'.os = s1.os ∧ AllBare s'.gens) s1 := by
  -- by the library's own end, for a promise that gives the call back as it is told
  have rv := vals_ints hi
  have main : ∀ H : Hp, Only H → SqL K H a (ns.map V.int) → HOk P w H s1.heap → (∀ b, H b ≠ none → b = a) → (H a ≠ none → K.lookup a = none) →
      codeAny (model P w) callerA (.call (.ref fa) ⟨[.ref a], []⟩) (fun r s' => r = .ok (.ret (.bool true)) ∧ OldK s1.heap s'.heap ∧ s'.os = s1.os ∧ AllBare s'.gens) s1 := by
    intro H hO hS hok hA hK
    have free : ∀ {b : Addr} {o : Obj}, s1.heap.get? b = some o → (∀ its n, o.data ≠ .seq its n) → H b = none := fun {b o} e d => by
      refine Classical.byContradiction fun q => ?_
      have := hA b q
      subst this
      rw [ha] at e
      cases e
      exact d _ _ rfl
    have nsB : ∀ {b : Addr} {m : Str → Option Value}, s1.heap.Ns b m → (hidT s1.heap H).Ns b m := by
      rintro b m ⟨o, es, ep, e, d, r⟩
      exact ⟨o, es, ep, hidT_get e (free e fun its n z => by rw [d] at z; cases z), d, r⟩
    have kB : K.In (hidT s1.heap H) := by
      intro b o e
      refine hidT_get (KX b o e) (Classical.byContradiction fun q => ?_)
      have := hA b q
      subst this
      rw [hK q] at e
      cases e
    obtain ⟨mc, l1, l2⟩ := hlim
    have env : Env0 P w K mg (hidT s1.heap H) callerA [] s1 H := {
      frames := rfl
      mod := ⟨kB, nsB hns, ⟨mb, nsB hb, hbb⟩, ⟨mc, nsB l1, l2⟩⟩
      bs := fun b o e => of_hidT e
      bsz := Nat.le_of_eq (hidT_size _ _)
      funs := trivial
      frf := fun b hb => nomatch (show b ∈ ([] : List Addr) from hb)
      hok := hok
      bare := .of_eq hg }
    have go := (F _ kB (nsB hns)).run callerA [] s1 H ⟨[.ref a], []⟩ [.ref a] [.ref a] _ _ rfl hr env (hbind s1 (.ref a)) (.cons rfl .nil) (hsp H hO hS)
    refine codeAny_mono go fun r s' h => ?_
    match r, h with
    | .error e, h => exact False.elim h
    | .ok .next, h => exact False.elim h
    | .ok .brk, h => exact False.elim h
    | .ok .cont, h => exact False.elim h
    | .ok (.ret u), ⟨v, H', os, bare, un, hok', r', q⟩ =>
      have q' : v = .bl true := q
      subst q'
      obtain rfl : u = Value.bool true := r'
      refine ⟨rfl, OldK.of_keep fun b o e => ?_, os, bare⟩
      cases hb : H b with
      | none => exact un.keep b o e hb (fun z => nomatch (show b ∈ ([] : List Addr) from z)) (fun z => nomatch z)
      | some u =>
        rcases hO b with z | ⟨ob, xs, z⟩
        · rw [hb] at z
          cases z
        · have e1 := (hok b _ z).1
          have e2 := (hok' b _ (un.frzs b ob _ z)).1
          rw [e] at e1
          cases e1
          exact e2
  cases hk : K.lookup a with
  | some o =>
    have e := KX a o hk
    rw [ha] at e
    cases e
    have h0 : SqL K (fun _ => none) a (ns.map V.int) := .inr ⟨_, vs.toArray, _, hk, rfl, rfl, rfl, by
      rw [List.size_toArray, hi.length]
      exact hl, by simpa using rv⟩
    exact main (fun _ => none) (fun _ => .inl rfl) h0 (fun b u z => nomatch (show (none : Option HO) = some u from z)) (fun b z => absurd rfl z) fun z => absurd rfl z
  | none =>
    let H1 : Hp := upd (fun _ => none) a (.frz { cls := .type "list", data := .seq vs.toArray } (.lst (ns.map V.int)))
    have at' : ∀ b, b ≠ a → H1 b = none := fun b hb => upd_ne hb
    refine main H1 (fun b => ?_) (.inl (.inr ⟨_, upd_same⟩)) (fun b u z => ?_) (fun b z => Classical.byContradiction fun q => z (at' b q)) fun _ => hk
    · by_cases hb : b = a
      · rw [hb]
        exact .inr ⟨_, _, upd_same⟩
      · exact .inl (at' b hb)
    · by_cases hb : b = a
      · subst hb
        have z2 : some (HO.frz { cls := .type "list", data := .seq vs.toArray } (.lst (ns.map V.int))) = some u := upd_same.symm.trans z
        cases z2
        exact ⟨ha, by rw [List.length_map]; exact hl, vs, _, rv, ha⟩
      · rw [at' b hb] at z
        cases z
/-- what the head leaves, from the promise of the law's def -/
theorem walk_g {l : PySem.W.OpenLaw} {n k : Nat} {q : Program} {loose : List Str} {XP : (Str → Option Value) → Heap → Prop} {YP : World → Heap → Prop} {d : DefRec} {K : Params → PySem.W.Frag} {sp : World → Sp} {x : Str}
    (hn : l.most = some n) (hn2 : n ≤ sizeLine) (hdf : d.params.defaults = []) (hr : Room k callerA) (hY : ∀ (w : World) (h : Heap), YP w h → (K w.params).In h)
    (F : ∀ (w : World) (mg : Str → Option Value) (fa : Addr) (h : Heap), (K w.params).In h → h.Ns mainGlobals mg → mg d.name = some (.ref fa) →
      ∃ fd : FuncData, (∀ (s : Shared) (u : Value), BindsTo s fd ⟨[u], []⟩ [(x, u)]) ∧ ∀ base : Heap, (K w.params).In base → base.Ns mainGlobals mg → FnG l.prog w (K w.params) mg base k fa fd [x] (sp w))
    (hsp : ∀ (w : World) (H : Hp) (a : Addr) (ns : List Int), ns.length ≤ n → Only H → SqL (K w.params) H a (ns.map V.int) → sp w [.ref a] H (fun v _ => v = .bl true) fun _ _ _ => False) :
    PySem.W.WalkO q loose XP YP l.row.toRowW d [] (fun f vs => PySem.call f vs) := by
  refine Att.attach_callB hn hdf ?_
  intro w s0 s1 mg mb fa o pm cd doc a vs ns G Y ho hd hcd hmg hobj hints hlen _ hg
  have KX := hY w _ Y
  obtain ⟨fd, hb, hF⟩ := F w mg fa _ KX G.T.g hmg
  exact law_g KX G.T.g G.T.b G.T.builtins G.T.nolimit hg hobj hints (Nat.le_trans hlen hn2) hr hF hb fun H hO hS => hsp w H a ns hlen hO hS
end Dw

namespace Dw
open PySem PySem.Spec PyProof.Rows L2
/-! ### data without objects of own classes, as the library's data -/
mutual
def D.py : D → PyData
  | .non => .none
  | .bl b => .bool b
  | .int i => .int i
  | .str s => .str s
  | .ref _ => .none
  | .lst xs => .list (D.pyL xs)
  | .tup xs => .tuple (D.pyL xs)
  | .ins _ _ _ => .none
  | .exc _ _ _ => .none
def D.pyL : List D → List PyData
  | [] => []
  | d :: ds => d.py :: D.pyL ds
end
mutual
/-- of none, bools, ints below 2 ^ 1920, texts, lists and tuples -/
def D.pl : D → Bool
  | .non => true
  | .bl _ => true
  | .int i => decide (i.natAbs.log2 < 1920)
  | .str s => PyData.strOk s
  | .ref _ => false
  | .lst xs => D.plL xs
  | .tup xs => D.plL xs
  | .ins _ _ _ => false
  | .exc _ _ _ => false
def D.plL : List D → Bool
  | [] => true
  | d :: ds => d.pl && D.plL ds
end
mutual
theorem dp_of {K : PySem.W.Frag} {N : No} {H : Hp} : ∀ {d : D} {v : V}, d.pl = true → Rep K N H d v → Dp K H v d.py
  | .non, v, _, h => by
    have e : v = .non := h
    subst e
    exact .non
  | .bl b, v, _, h => by
    have e : v = .bl b := h
    subst e
    exact .bl b
  | .int i, v, _, h => by
    have e : v = .int i := h
    subst e
    exact .int i
  | .str s, v, _, h => by
    have e : v = .str s := h
    subst e
    exact .str s
  | .ref _, _, p, _ => nomatch (show false = true from p)
  | .lst xs, v, p, h => by
    obtain ⟨a, vs, rfl, h1, h2⟩ := h
    exact .lst h1.sq (dpL_of (show D.plL xs = true from p) h2)
  | .tup xs, v, p, h => by
    obtain ⟨a, vs, rfl, h1, h2⟩ := h
    exact .tup h1.sq (dpL_of (show D.plL xs = true from p) h2)
  | .ins _ _ _, _, p, _ => nomatch (show false = true from p)
  | .exc _ _ _, _, p, _ => nomatch (show false = true from p)
theorem dpL_of {K : PySem.W.Frag} {N : No} {H : Hp} : ∀ {ds : List D} {vs : List V}, D.plL ds = true → RepL K N H ds vs → DpAll K H vs (D.pyL ds)
  | [], vs, _, h => by
    have e : vs = [] := h
    subst e
    exact .nil
  | d :: ds, vs, p, h => by
    obtain ⟨v, r, rfl, h1, h2⟩ := h
    have p2 : (d.pl && D.plL ds) = true := p
    rw [Bool.and_eq_true] at p2
    exact .cons (dp_of p2.1 h1) (dpL_of p2.2 h2)
end
mutual
theorem py_show : ∀ d : D, d.pl = true → d.py.showable = true ∧ d.py.canLay0 = true
  | .non, _ => ⟨rfl, rfl⟩
  | .bl _, _ => ⟨rfl, rfl⟩
  | .int _, p => ⟨p, rfl⟩
  | .str _, p => ⟨rfl, p⟩
  | .ref _, p => nomatch (show false = true from p)
  | .lst xs, p => py_showL xs p
  | .tup xs, p => py_showL xs p
  | .ins _ _ _, p => nomatch (show false = true from p)
  | .exc _ _ _, p => nomatch (show false = true from p)
theorem py_showL : ∀ ds : List D, D.plL ds = true → PyData.showableAll (D.pyL ds) = true ∧ PyData.canLayAll0 (D.pyL ds) = true
  | [], _ => ⟨rfl, rfl⟩
  | d :: ds, p => by
    have p2 : (d.pl && D.plL ds) = true := p
    rw [Bool.and_eq_true] at p2
    have h1 := py_show d p2.1
    have h2 := py_showL ds p2.2
    exact ⟨by show (d.py.showable && PyData.showableAll (D.pyL ds)) = true; rw [h1.1, h2.1]; rfl, by show (d.py.canLay0 && PyData.canLayAll0 (D.pyL ds)) = true; rw [h1.2, h2.2]; rfl⟩
end
/-- what repr gives -/
def D.shown (d : D) : Str := d.py.shown
section
variable {X : Cx}
def rReprD (K : PySem.W.Frag) : List V → Hp → VK → Prop := fun xs H Q => ∃ (x : V) (d : PyData), xs = [x] ∧ Dp K H x d ∧ d.showable = true ∧ d.hasDict = false ∧ d.depth ≤ 60 ∧ d.shown.length ≤ sizeLine ∧ Q (.str d.shown) H
theorem call_reprD (hg : X.A.guards = some []) (hu : X.A.units + 64 < cLine) : CallR X (.builtin "repr") (rReprD X.K) := by
  intro pins s σ H xs us Q I r h
  obtain ⟨x, d, rfl, hd, hs, hdd, hdp, hz, q⟩ := h
  obtain ⟨u, rfl, ru⟩ := vals1 r
  obtain ⟨as, rd⟩ := Dp.reads I d x u hd ru
  cases d with
  | none =>
    cases rd
    exact PySem.P.repr_of_none ⟨.str "None", H, I.tok _, ⟨_, rfl⟩, q⟩
  | bool b =>
    cases rd
    exact PySem.P.repr_of_bool ⟨.str (if b then "True" else "False"), H, I.tok _, ⟨_, rfl⟩, q⟩
  | int i =>
    cases rd
    exact PySem.P.repr_of_int (of_decide_eq_true hs) ⟨.str (toString i), H, I.tok _, ⟨_, rfl⟩, q⟩
  | str z =>
    cases rd
    exact PySem.P.repr_of_str ⟨.str (reprText z), H, I.tok _, ⟨_, rfl⟩, q⟩ hz
  | list ds =>
    cases hd with
    | lst h1 h2 =>
      cases ru
      refine repr_of_reads' rd hs (PyData.noDict_hsm hdd) hg (by omega) (fun _ _ e => e) (fun h' u tk hk => ?_) hz
      exact ⟨.str _, H, I.kept (h' := h') (t' := tk) hk, ⟨_, rfl⟩, q⟩
  | tuple ds =>
    cases hd with
    | tup h1 h2 =>
      cases ru
      refine repr_of_reads' rd hs (PyData.noDict_hsm hdd) hg (by omega) (fun _ _ e => e) (fun h' u tk hk => ?_) hz
      exact ⟨.str _, H, I.kept (h' := h') (t' := tk) hk, ⟨_, rfl⟩, q⟩
  | dict kvs => cases hd
end
/-- shown within B signs, at most n deep -/
def D.ok (n B : Nat) (d : D) : Prop := d.pl = true ∧ d.py.depth ≤ n ∧ d.shown.length ≤ B
theorem ok_non : D.ok 0 4 .non := ⟨rfl, Nat.zero_le _, by decide⟩
theorem ok_bl {b : Bool} : D.ok 0 5 (.bl b) := ⟨rfl, Nat.zero_le _, by cases b <;> decide⟩
theorem depthAll_le {n : Nat} : ∀ {xs : List D}, (∀ x ∈ xs, x.py.depth ≤ n) → PyData.depthAll (D.pyL xs) ≤ n
  | [], _ => Nat.zero_le _
  | x :: xs, h => by
    show max x.py.depth (PyData.depthAll (D.pyL xs)) ≤ n
    exact Nat.max_le.mpr ⟨h x (by simp), depthAll_le fun y hy => h y (by simp [hy])⟩
theorem plL_of : ∀ {xs : List D}, (∀ x ∈ xs, x.pl = true) → D.plL xs = true
  | [], _ => rfl
  | x :: xs, h => by
    show (x.pl && D.plL xs) = true
    rw [h x (by simp), plL_of fun y hy => h y (by simp [hy])]
    rfl
theorem shownAll_len {B : Nat} : ∀ {xs : List D}, (∀ x ∈ xs, x.shown.length ≤ B) → ((PyData.shownAll (D.pyL xs)).map (·.length)).sum ≤ xs.length * B ∧ (PyData.shownAll (D.pyL xs)).length = xs.length
  | [], _ => ⟨Nat.zero_le _, rfl⟩
  | x :: xs, h => by
    have h1 := h x (by simp)
    have h2 := shownAll_len (xs := xs) fun y hy => h y (by simp [hy])
    constructor
    · show ((x.py.shown :: PyData.shownAll (D.pyL xs)).map (·.length)).sum ≤ _
      rw [List.map_cons, List.sum_cons, List.length_cons, Nat.add_mul, Nat.one_mul]
      have h3 : x.py.shown.length ≤ B := h1
      omega
    · show (x.py.shown :: PyData.shownAll (D.pyL xs)).length = _
      rw [List.length_cons, h2.2, List.length_cons]
theorem ok_lst {n B L : Nat} {xs : List D} (h : ∀ x ∈ xs, D.ok n B x) (hl : xs.length ≤ L) : D.ok (n + 1) (L * (B + 2) + 3) (.lst xs) := by
  refine ⟨plL_of fun x hx => (h x hx).1, Nat.succ_le_succ (depthAll_le fun x hx => (h x hx).2.1), ?_⟩
  obtain ⟨h1, h2⟩ := shownAll_len (xs := xs) fun x hx => (h x hx).2.2
  have h3 := listText_len_le (PyData.shownAll (D.pyL xs))
  show (listText (PyData.shownAll (D.pyL xs))).length ≤ _
  have h4 : xs.length * B + 2 * xs.length = xs.length * (B + 2) := by rw [Nat.mul_add, Nat.mul_comm 2]
  have h5 : xs.length * (B + 2) ≤ L * (B + 2) := Nat.mul_le_mul_right _ hl
  omega
section
variable {X : Cx} {M : Md} {O : List Addr} {r : List Sl} {k : D → Prop} {ta tb te : TE}
theorem de_repr (h : De M te O r fun x => ∃ n B, D.ok n B x ∧ n ≤ 60 ∧ B ≤ sizeLine ∧ k (.str x.shown)) : De M (tCB (rReprD M.K) (tCons te tNil)) O r k := fun σ H Q R z => h σ H _ R fun v H1 x R1 e1 p1 q => by
  obtain ⟨n, B, hk, hn, hB, q⟩ := q
  have hs := py_show x hk.1
  exact ⟨v, x.py, rfl, dp_of hk.1 p1, hs.1, PyData.hasDict_of_canLay _ hs.2, Nat.le_trans hk.2.1 hn, Nat.le_trans hk.2.2 hB, z _ H1 (.str x.shown) R1 e1 rfl q⟩
theorem de_eqD (h : De M ta O r fun x => De M tb O r fun y => (x.pl = true ∧ x.py.depth ≤ 64) ∧ (y.pl = true ∧ y.py.depth ≤ 64) ∧ k (.bl (PyData.eqv x.py y.py))) : De M (tOp (rEqD M.K) ta tb) O r k := de_op2 h fun x y c σ H v u Q R pv pu z => by
  obtain ⟨⟨p1, d1⟩, ⟨p2, d2⟩, q⟩ := c
  have s1 := py_show x p1
  have s2 := py_show y p2
  refine ⟨x.py, y.py, dp_of p1 pv, dp_of p2 pu, ?_, ?_, z _ H (.bl _) R .refl rfl q⟩
  · unfold SeqAt.shaped
    rw [s1.2, decide_eq_true d1]
    rfl
  · unfold SeqAt.shaped
    rw [s2.2, decide_eq_true d2]
    rfl
theorem de_neD (h : De M ta O r fun x => De M tb O r fun y => (x.pl = true ∧ x.py.depth ≤ 64) ∧ (y.pl = true ∧ y.py.depth ≤ 64) ∧ k (.bl (!PyData.eqv x.py y.py))) : De M (tOp (rNeD M.K) ta tb) O r k := de_op2 h fun x y c σ H v u Q R pv pu z => by
  obtain ⟨⟨p1, d1⟩, ⟨p2, d2⟩, q⟩ := c
  have s1 := py_show x p1
  have s2 := py_show y p2
  refine ⟨x.py, y.py, dp_of p1 pv, dp_of p2 pu, ?_, ?_, z _ H (.bl _) R .refl rfl q⟩
  · unfold SeqAt.shaped
    rw [s1.2, decide_eq_true d1]
    rfl
  · unfold SeqAt.shaped
    rw [s2.2, decide_eq_true d2]
    rfl
/-- xs + ys, lists of any kind -/
def rCatA (K : PySem.W.Frag) : R2 := fun x y H Q => ∃ l b xs zs, x = .ref l ∧ y = .ref b ∧ SqL K H l xs ∧ SqL K H b zs ∧ xs.length + zs.length ≤ sizeLine ∧ ∀ p, H p = none → Q (.ref p) (upd H p (.lst (xs ++ zs)))
theorem op_catA : OpR X (binaryOp .Add) (rCatA X.K) := by
  intro pins s σ H x y v u Q I rx ry h
  obtain ⟨l, b, xs, zs, rfl, rfl, hH, hB, hz, q⟩ := h
  cases rx
  cases ry
  obtain ⟨its, r1, p1, z1⟩ := I.list hH
  obtain ⟨its2, r2, p2, z2⟩ := I.list hB
  obtain ⟨o1, n1, e1, c1, d1, q1⟩ := p1
  obtain ⟨o2, n2, e2, c2, d2, q2⟩ := p2
  obtain ⟨cls, dd, data, sl⟩ := o1
  obtain ⟨cls2, dd2, data2, sl2⟩ := o2
  simp only at c1 q1 c2 q2
  subst c1 q1 c2 q2
  have l1 := r1.length
  have l2 := r2.length
  have hs : its.toArray.size + its2.toArray.size ≤ sizeLine := by rw [List.size_toArray, List.size_toArray]; omega
  refine concat_meets ⟨_, e1, rfl⟩ ⟨_, e2, rfl⟩ noFill_list_add seq_list_add PySem.F.slot_list_add PySem.F.entry_list_add (PySem.F.args_list_add_2 _ _)
    (list_addW l b its.toArray its2.toArray n1 n2 dd dd2 sl sl2 hs) ⟨e1, e2, ?_⟩
  have ea : its.toArray ++ its2.toArray = (its ++ its2).toArray := by simp
  rw [ea]
  exact ⟨.ref _, _, I.lnew (t' := s.toks) (r1.append r2) (by rw [List.length_append]; omega), rfl, q _ I.fresh⟩
theorem de_catA (h : De M ta O r fun x => De M tb O r fun y => ∃ xs ys, x = .lst xs ∧ y = .lst ys ∧ xs.length + ys.length ≤ sizeLine ∧ k (.lst (xs ++ ys))) : De M (tOp (rCatA M.K) ta tb) O r k := de_op2 h fun x y c σ H v u Q R pv pu z => by
  obtain ⟨xs, ys, rfl, rfl, hz, q⟩ := c
  obtain ⟨a, vs, rfl, h1, h2⟩ := pv
  obtain ⟨b, ws, rfl, h3, h4⟩ := pu
  exact ⟨a, b, vs, ws, rfl, rfl, h1.sq, h3.sq, by rw [← h2.length, ← h4.length]; exact hz, fun p hp => z _ _ _ (R.grow (sm_new hp)) (sm_0 (sm_new hp)) (rep_lst R hp (h2.append h4)) q⟩
end
end Dw

/-! Dw7: enumerate over a list; how long a tuple is shown. -/
namespace Dw
open PySem PySem.Spec PyProof.Rows L2
theorem ok_tup {n B L : Nat} {xs : List D} (h : ∀ x ∈ xs, D.ok n B x) (hl : xs.length ≤ L) : D.ok (n + 1) (L * (B + 2) + 3) (.tup xs) := by
  obtain ⟨h1, h2⟩ := shownAll_len (xs := xs) fun x hx => (h x hx).2.2
  have h3 := tupleText_len_le (PyData.shownAll (D.pyL xs))
  have h4 : xs.length * B + 2 * xs.length = xs.length * (B + 2) := by rw [Nat.mul_add, Nat.mul_comm 2]
  have h5 : xs.length * (B + 2) ≤ L * (B + 2) := Nat.mul_le_mul_right _ hl
  exact ⟨plL_of fun x hx => (h x hx).1, Nat.succ_le_succ (depthAll_le fun x hx => (h x hx).2.1), by
    show (tupleText (PyData.shownAll (D.pyL xs))).length ≤ _
    omega⟩
theorem D.ok.mono {n m B C : Nat} {d : D} (h : D.ok n B d) (hn : n ≤ m) (hb : B ≤ C) : D.ok m C d := ⟨h.1, Nat.le_trans h.2.1 hn, Nat.le_trans h.2.2 hb⟩
/-- the pairs of enumerate -/
def enumD (xs : List D) : List D := (List.range xs.length).zipWith (fun (i : Nat) x => D.tup [.int (i : Int), x]) xs
theorem enumD_len (xs : List D) : (enumD xs).length = xs.length := by
  unfold enumD
  rw [List.length_zipWith, List.length_range, Nat.min_self]
theorem enumD_get {xs : List D} {i : Nat} {d : D} (h : (enumD xs)[i]? = some d) : ∃ x, xs[i]? = some x ∧ d = .tup [.int (i : Int), x] := by
  have hi : i < xs.length := by
    have := (List.getElem?_eq_some_iff.mp h).1
    rw [enumD_len] at this
    exact this
  unfold enumD at h
  rw [List.getElem?_zipWith, List.getElem?_range hi, List.getElem?_eq_getElem hi] at h
  exact ⟨xs[i], List.getElem?_eq_getElem hi, (Option.some.inj h).symm⟩
def wk_enum (K : PySem.W.Frag) (a : Addr) (xs : List D) : Wk K (Ite K a) (enumD xs) where
  G := fun N H => ∃ vs, LAt K N H a vs ∧ RepL K N H xs vs
  mono := fun N H H' e ⟨vs, h1, h2⟩ => ⟨vs, h1.mono e, h2.mono e⟩
  gen := fun N N' H e ⟨vs, h1, h2⟩ => ⟨vs, h1.gen e, h2.gen e⟩
  go := fun N H i ⟨vs, h1, h2⟩ hi => by
    rw [enumD_len] at hi
    exact ⟨vs, vs[i]'(by rw [← h2.length]; exact hi), h1.sq, List.getElem?_eq_getElem _⟩
  yld := fun N H i x H' d hN ⟨vs, h1, h2⟩ y hd => by
    obtain ⟨T, v, rfl, nT, rfl, y⟩ := y
    obtain ⟨e, q1, rfl⟩ := enumD_get hd
    obtain ⟨w, q2, q3⟩ := h2.get q1
    have := y vs h1.sq
    rw [q2] at this
    cases this
    refine ⟨sm_new nT, T, _, rfl, .inl ⟨fun z => hN T z nT, .inl upd_same⟩, .cons rfl (.one (q3.mono (sm_0 (sm_new nT))))⟩
  stop := fun N H i ⟨vs, h1, h2⟩ hi => by
    rw [enumD_len] at hi
    exact ⟨vs, h1.sq, by rw [← h2.length]; exact hi⟩
section
variable {M : Md} {O : List Addr} {r : List Sl} {k : List D → Prop} {ta : TA}
theorem di_enum (h : DA M ta O r fun ds => ∃ xs, ds = [.lst xs] ∧ k (enumD xs)) : DI M (iEnum M.K ta) O r k := fun σ H Q R z => h σ H _ R fun vs H1 ds R1 e1 p1 q => by
  obtain ⟨xs, rfl, q⟩ := q
  obtain ⟨v, t, rfl, ⟨a, ws, rfl, h1, h2⟩, p3⟩ := p1
  obtain rfl : t = [] := p3
  exact ⟨a, ws, rfl, h1.sq, z _ H1 _ (wk_enum M.K a xs) R1 e1 ⟨ws, h1, h2⟩ q⟩
end
end Dw

/-! Dw8: texts as lists of signs; an own list popped at a place, two lists of one's own at once. -/
namespace Dw
open PySem PySem.Spec PyProof.Rows L2
/-- the text of these signs -/
def tx (l : List Nat) : Str := ⟨l.toArray⟩
theorem tx_len (l : List Nat) : (tx l).length = l.length := by
  show l.toArray.size = _
  exact List.size_toArray
theorem tx_add (a b : List Nat) : tx a ++ tx b = tx (a ++ b) := by
  show Str.append ⟨a.toArray⟩ ⟨b.toArray⟩ = _
  unfold Str.append tx
  simp
theorem tx_inj {a b : List Nat} (h : tx a = tx b) : a = b := by
  have := congrArg (fun s : Str => s.cps.toList) h
  simpa [tx] using this
theorem tx_of (s : Str) : ∃ l, s = tx l := ⟨s.cps.toList, by cases s; simp [tx]⟩
theorem sIx_at (n d : Nat) {v : Int} (h : 0 ≤ v) : HT.sIx n d (some v) = min v.toNat n := by
  show (if v < 0 then (v + (n : Int)).toNat else min v.toNat n) = _
  rw [if_neg (by omega)]
def cutN (l : List Nat) (lo hi : Option Int) : List Nat := (l.drop (HT.sIx l.length 0 lo)).take (HT.sIx l.length l.length hi - HT.sIx l.length 0 lo)
theorem cutS_tx (l : List Nat) (lo hi : Option Int) : cutS (tx l) lo hi = tx (cutN l lo hi) := by
  unfold cutS cutN tx
  simp [Str.length]
theorem cutN_to {l : List Nat} {n : Int} (h : 0 ≤ n) : cutN l none (some n) = l.take n.toNat := by
  unfold cutN
  rw [sIx_at _ _ h]
  show (l.drop 0).take (min n.toNat l.length - 0) = _
  rw [List.drop_zero, Nat.sub_zero]
  by_cases e : n.toNat ≤ l.length
  · rw [Nat.min_eq_left e]
  · rw [Nat.min_eq_right (by omega), List.take_of_length_le (Nat.le_refl _), List.take_of_length_le (by omega)]
theorem cutN_from {l : List Nat} {n : Int} (h : 0 ≤ n) : cutN l (some n) none = l.drop n.toNat := by
  unfold cutN
  rw [sIx_at _ _ h]
  show (l.drop (min n.toNat l.length)).take (l.length - min n.toNat l.length) = _
  by_cases e : n.toNat ≤ l.length
  · rw [Nat.min_eq_left e, List.take_of_length_le (by rw [List.length_drop]; omega)]
  · rw [Nat.min_eq_right (by omega), List.drop_length, List.drop_of_length_le (by omega), List.take_nil]
section
variable {M : Md} {O : List Addr} {r : List Sl} {σ : L2.St} {H : Hp} {k : D → Prop} {te ta tb : TE} {E : Kn}
def rAddS : R2 := fun x y H Q => ∃ i j, x = .str i ∧ y = .str j ∧ i.length + j.length ≤ sizeLine ∧ Q (.str (i ++ j)) H
theorem de_addS (h : De M ta O r fun x => De M tb O r fun y => ∃ a b, x = .str (tx a) ∧ y = .str (tx b) ∧ a.length + b.length ≤ sizeLine ∧ k (.str (tx (a ++ b)))) : De M (tOp rAddS ta tb) O r k := de_op2 h fun x y c σ H v u Q R pv pu z => by
  obtain ⟨a, b, rfl, rfl, hl, q⟩ := c
  obtain rfl : v = .str (tx a) := pv
  obtain rfl : u = .str (tx b) := pu
  refine ⟨_, _, rfl, rfl, by rw [tx_len, tx_len]; exact hl, ?_⟩
  rw [tx_add]
  exact z _ H (.str (tx (a ++ b))) R .refl rfl q
theorem de_ixS (h : De M ta O r fun x => De M tb O r fun y => ∃ l i c, x = .str (tx l) ∧ y = .int i ∧ l.length ≤ sizeLine ∧ atI l i = some c ∧ k (.str (tx [c]))) : De M (tOp rIxS ta tb) O r k := de_op2 h fun x y c σ H v u Q R pv pu z => by
  obtain ⟨l, i, c, rfl, rfl, hl, e, q⟩ := c
  obtain rfl : v = .str (tx l) := pv
  obtain rfl : u = .int i := pu
  exact ⟨_, i, c, rfl, rfl, by rw [tx_len]; exact hl, by simpa [tx] using e, z _ H (.str (tx [c])) R .refl rfl q⟩
theorem de_slS {lo hi : TO} (h : De M te O r fun x => ∃ l, x = .str (tx l) ∧ l.length ≤ sizeLine ∧ DO M lo O r fun i => DO M hi O r fun j => k (.str (tx (cutN l i j)))) : De M (tSl rSlS te lo hi) O r k := fun σ H Q R z => h σ H _ R fun v H1 x R1 e1 p1 q => by
  obtain ⟨l, rfl, hl, q⟩ := q
  refine q σ H1 _ R1 fun i H2 R2 e2 q2 => q2 σ H2 _ R2 fun j H3 R3 e3 q3 => ?_
  obtain rfl : v = .str (tx l) := p1
  refine ⟨_, rfl, by rw [tx_len]; exact hl, ?_⟩
  rw [cutS_tx]
  exact z _ H3 (.str (tx (cutN l i j))) R3 ((e1.trans e2).trans e3) rfl q3
/-- a sign or nothing: text * 0, text * 1 -/
def rMulS : R2 := fun x y H Q => ∃ (z : Str) (b : Bool), x = .str z ∧ y = .int (if b then 1 else 0) ∧ Q (.str (if b then z else Str.empty)) H
theorem op_mulS {X : Cx} : OpR X (binaryOp .Mult) rMulS := by
  intro pins s σ H x y v u Q I rx ry h
  obtain ⟨z, b, rfl, rfl, q⟩ := h
  obtain ⟨t, rfl⟩ := rx
  cases b with
  | false =>
    obtain ⟨t', rfl⟩ := ry
    exact PySem.P.mul_str_none (by decide) (by decide) ⟨.str Str.empty, H, I.tok _, ⟨_, rfl⟩, q⟩
  | true =>
    obtain ⟨t', rfl⟩ := ry
    refine PySem.P.mul_str (by decide) (fun _ h => ?_) (fun _ h => ?_) ?_
    · exact absurd h (by rw [show ((if true = true then (1 : Int) else 0) == 1) = true from rfl, Bool.true_or]; decide)
    · exact absurd h (by rw [show ((if true = true then (1 : Int) else 0) == 1) = true from rfl, Bool.true_or]; decide)
    · rw [if_neg (by decide), if_pos (by rw [show ((if true = true then (1 : Int) else 0) == 1) = true from rfl, Bool.true_or])]
      exact ⟨.str z, H, I, ⟨_, rfl⟩, q⟩
theorem de_mulS (h : De M ta O r fun x => De M tb O r fun y => ∃ (l : List Nat) (b : Bool), x = .str (tx l) ∧ y = .int (if b then 1 else 0) ∧ k (.str (tx (if b then l else [])))) : De M (tOp rMulS ta tb) O r k := de_op2 h fun x y c σ H v u Q R pv pu z => by
  obtain ⟨l, b, rfl, rfl, q⟩ := c
  obtain rfl : v = .str (tx l) := pv
  obtain rfl : u = .int (if b then 1 else 0) := pu
  refine ⟨_, b, rfl, rfl, ?_⟩
  have e : (if b then tx l else Str.empty) = tx (if b then l else []) := by cases b <;> rfl
  rw [e]
  exact z _ H (.str _) R .refl rfl q
/-- int of a truth value -/
theorem de_int1 (h : De M te O r fun x => ∃ b : Bool, x = .bl b ∧ k (.int (if b then 1 else 0))) : De M (tCB (fun xs H Q => (∃ i, xs = [.int i] ∧ Q (.int i) H) ∨ ∃ k : Bool, xs = [.bl k] ∧ Q (.int (if k then 1 else 0)) H) (tCons te tNil)) O r k := fun σ H Q R z => h σ H _ R fun v H1 x R1 e1 p1 q => by
  obtain ⟨b, rfl, q⟩ := q
  obtain rfl : v = .bl b := p1
  exact .inr ⟨b, rfl, z _ H1 (.int _) R1 e1 rfl q⟩
def rJoin (K : PySem.W.Frag) : V → List V → Hp → VK → Prop := fun x xs H Q => ∃ a p, ∃ ys : List Str, x = .str a ∧ xs = [.ref p] ∧ (SqL K H p (ys.map V.str) ∨ SqT K H p (ys.map V.str)) ∧
    (ys.map (·.length)).sum + ys.length * a.length ≤ 16777216 ∧ Q (.str (Txt.join a ys)) H
theorem tl_empty_join : ∀ ls : List (List Nat), TL.joinL [] ls = ls.flatten
  | [] => rfl
  | [p] => by simp [TL.joinL]
  | p :: q :: r => by
    show p ++ ([] ++ TL.joinL [] (q :: r)) = _
    rw [tl_empty_join (q :: r)]
    simp
theorem repL_strs_of {K : PySem.W.Frag} {N : No} {H : Hp} : ∀ {ss : List Str} {vs : List V}, RepL K N H (ss.map D.str) vs → vs = ss.map V.str
  | [], vs, h => h
  | s :: ss, vs, h => by
    obtain ⟨v, t, rfl, h1, h2⟩ := h
    obtain rfl : v = .str s := h1
    rw [repL_strs_of h2]
    rfl
theorem strs_repL {K : PySem.W.Frag} {N : No} {H : Hp} : ∀ ss : List Str, RepL K N H (ss.map D.str) (ss.map V.str)
  | [] => rfl
  | s :: ss => .cons rfl (strs_repL ss)
/-- "".join(texts) -/
theorem de_join0 (h : De M te O r fun y => ∃ ls : List (List Nat), y = .lst (ls.map fun l => D.str (tx l)) ∧ (ls.map List.length).sum ≤ 1000 ∧ k (.str (tx ls.flatten))) : De M (tM1 (rJoin M.K) (tC (.str "")) te) O r k := fun σ H Q R z => by
  refine ⟨⟨_, rfl⟩, h σ H _ R fun v H1 x R1 e1 p1 q => ?_⟩
  obtain ⟨ls, rfl, hl, q⟩ := q
  obtain ⟨a, vs, rfl, h1, h2⟩ := p1
  have e : (ls.map fun l => D.str (tx l)) = (ls.map tx).map D.str := by rw [List.map_map]; rfl
  rw [e] at h2
  have ev := repL_strs_of h2
  subst ev
  refine ⟨_, a, ls.map tx, rfl, rfl, .inl h1.sq, ?_, ?_⟩
  · rw [List.map_map]
    have e2 : (List.length : List Nat → Nat) = Str.length ∘ tx := funext fun l => (tx_len l).symm
    rw [← e2]
    show (ls.map List.length).sum + (ls.map tx).length * 0 ≤ _
    omega
  · have e3 : Txt.join "" (ls.map tx) = tx ls.flatten := by
      rw [TL.join_eq]
      obtain ⟨l, el⟩ := tx_of (Str.join "" (ls.map tx))
      have e4 := TL.tl_join "" (ls.map tx)
      rw [List.map_map] at e4
      have e5 : TL.tl ∘ tx = id := funext fun l => rfl
      rw [e5, List.map_id] at e4
      have e6 : TL.joinL (TL.tl "") ls = ls.flatten := tl_empty_join ls
      rw [e6, el] at e4
      have e7 : TL.tl (tx l) = l := rfl
      rw [e7] at e4
      rw [el, e4]
    rw [e3]
    exact z _ H1 (.str _) R1 e1 rfl q
/-- name in (texts) -/
theorem in_strs (s : Str) : ∀ ss : List Str, inV (.str s) (ss.map V.str) = decide (s ∈ ss)
  | [] => by simp [inV]
  | a :: ss => by
    have ih := in_strs s ss
    unfold inV at ih ⊢
    rw [List.map_cons, List.any_cons, ih]
    show ((a == s) || decide (s ∈ ss)) = _
    by_cases e : s = a
    · subst e
      simp
    · have e2 : (a == s) = false := beq_eq_false_iff_ne.mpr fun z => e z.symm
      simp [e, e2]
theorem all_flat (ss : List Str) : (ss.map V.str).all flatV = true := by
  rw [List.all_eq_true]
  intro x hx
  obtain ⟨s, _, rfl⟩ := List.mem_map.mp hx
  rfl
theorem de_inS (h : De M ta O r fun x => De M tb O r fun y => ∃ (s : Str) (ss : List Str), x = .str s ∧ (y = .lst (ss.map D.str) ∨ y = .tup (ss.map D.str)) ∧ k (.bl (decide (s ∈ ss)))) : De M (tOp (rIn M.K false) ta tb) O r k := de_op2 h fun x y c σ H v u Q R pv pu z => by
  obtain ⟨s, ss, rfl, hy, q⟩ := c
  obtain rfl : v = .str s := pv
  rcases hy with rfl | rfl
  · obtain ⟨a, vs, rfl, h1, h2⟩ := pu
    have ev := repL_strs_of h2
    subst ev
    refine ⟨a, _, rfl, .inl h1.sq, rfl, all_flat ss, ?_⟩
    rw [if_neg Bool.false_ne_true, in_strs]
    exact z _ H (.bl _) R .refl rfl q
  · obtain ⟨a, vs, rfl, h1, h2⟩ := pu
    have ev := repL_strs_of h2
    subst ev
    refine ⟨a, _, rfl, .inr h1.sq, rfl, all_flat ss, ?_⟩
    rw [if_neg Bool.false_ne_true, in_strs]
    exact z _ H (.bl _) R .refl rfl q
/-- name = a.split(b): a list of one's own -/
theorem ds_ownSplit {i : Nat} {a b : Str} (hb : (b.length == 0) = false) (ha : a.length + 2 ≤ sizeLine) (hl : (Txt.split a b).length ≤ sizeLine) (q : ∀ p, p ∉ O → E.nx (p :: O) (r.set i (.mu p ((Txt.split a b).map D.str)))) :
    DS M (tAsg (tM1 (fun x xs H Q => ∃ a b, x = .str a ∧ xs = [.str b] ∧ (b.length == 0) = false ∧ a.length + 2 ≤ sizeLine ∧ rNewStrs (Txt.split a b) H Q) (tC (.str a)) (tC (.str b))) (gName i)) O r E := fun σ H Z R z =>
  ⟨⟨a, rfl⟩, a, b, rfl, rfl, hb, ha, ((ds_own (tl := fun _ H K => K ((Txt.split a b).map V.str) H) (i := i) fun σ H Q R z => z _ H ((Txt.split a b).map D.str) R .refl (strs_repL _) ⟨by rw [List.length_map]; exact hl, q⟩ : DS M _ O r E) σ H Z R z).2⟩
theorem de_splitC {a b : Str} (hb : (b.length == 0) = false) (ha : a.length + 2 ≤ sizeLine) (q : k (.lst ((Txt.split a b).map D.str))) :
    De M (tM1 (fun x xs H Q => ∃ a b, x = .str a ∧ xs = [.str b] ∧ (b.length == 0) = false ∧ a.length + 2 ≤ sizeLine ∧ rNewStrs (Txt.split a b) H Q) (tC (.str a)) (tC (.str b))) O r k := fun σ H Q R z =>
  ⟨⟨a, rfl⟩, a, b, rfl, rfl, hb, ha, fun p hp => z _ _ (.lst _) (R.grow (sm_new hp)) (sm_0 (sm_new hp)) (rep_lst R hp (strs_repL _)) q⟩
/-- an own list taken n times -/
theorem de_repO (i : Nat) {p : Addr} {xs : List D} (hi : r[i]? = some (.mu p xs)) (h : De M te O r fun y => ∃ n : Int, y = .int n ∧ 0 ≤ n ∧ n ≤ 1000 ∧ xs.length * n.toNat ≤ 1000 ∧ k (.lst (List.replicate n.toNat xs).flatten)) : De M (tOp rRep (tVar i) te) O r k := fun σ H Q R z => by
  obtain ⟨e1, hp, vs, h1, h2⟩ := R.slot i _ hi
  refine ⟨.ref p, e1, h σ H _ R fun v H1 x R1 e2 p1 q => ?_⟩
  obtain ⟨n, rfl, n0, n1, hz, q⟩ := q
  obtain rfl : v = .int n := p1
  obtain ⟨_, _, vs', h1', h2'⟩ := R1.slot i _ hi
  have hrep : ∀ m : Nat, RepL M.K (nf M O) H1 (List.replicate m xs).flatten (List.replicate m vs').flatten := fun m => by
    induction m with
    | zero => exact .nil
    | succ m ih =>
      rw [List.replicate_succ, List.replicate_succ, List.flatten_cons, List.flatten_cons]
      exact h2'.append ih
  refine ⟨p, n, vs', rfl, rfl, h1', by omega, by omega, by rw [← h2'.length]; exact Nat.le_trans hz (by decide), fun a ha => ?_⟩
  exact z _ _ (.lst _) (R1.grow (sm_new ha)) (e2.trans (sm_0 (sm_new ha))) (rep_lst R1 ha (hrep _)) q
end
end Dw

namespace Dw
open PySem PySem.Spec PyProof.Rows L2
/-! the source of draws: a dict with a seed, a number and a list of numbers -/
def dealKv (seed number : Int) (ll : Addr) : List (Key × V) := [(.inr "seed", .int seed), (.inr "number", .int number), (.inr "left", .ref ll)]
def DealAt (g : Addr × Addr) (H : Hp) : Prop := ∃ (seed number : Int) (left : List Int), H g.1 = some (.dK (dealKv seed number g.2)) ∧ H g.2 = some (.lst (left.map V.int)) ∧ 0 ≤ seed ∧ seed < 2147483647 ∧ 0 ≤ number ∧ ∀ x ∈ left, 0 ≤ x
def dealS : Sg where
  G := Addr × Addr
  F0 := fun g a => a = g.1 ∨ a = g.2
  I := DealAt
  st := fun g H H' ⟨s, n, l, h1, h2, r⟩ e => ⟨s, n, l, e _ _ (.inl rfl) h1, e _ _ (.inr rfl) h2, r⟩
  tk := fun g H a ⟨s, n, l, h1, h2, r⟩ h => by
    rcases h with rfl | rfl
    · rw [h1]
      exact fun z => nomatch z
    · rw [h2]
      exact fun z => nomatch z
/-- the promise of the def that makes it -/
def spDeal (K : PySem.W.Frag) : Sp := fun vs H Q _ => ∃ (a : Addr) (ns : List Int) (b : Int), vs = [.ref a, .int b] ∧ SqL K H a (ns.map V.int) ∧ ns.length ≤ 63 ∧ 0 ≤ b ∧ b ≤ 63 ∧
  ∀ (g : Addr × Addr) (H' : Hp), H g.1 = none → H g.2 = none → Same H H' → DealAt g H' → Q (.ref g.1) H'
/-- a draw below n -/
def preDraw (g : Addr × Addr) (ds : List D) : Prop := ∃ n : Int, ds = [.ref g.1, .int n] ∧ 0 < n ∧ n < 1073741824
def postDraw (_ : Addr × Addr) (ds : List D) (d : D) : Prop := ∃ n m : Int, ds[1]? = some (.int n) ∧ d = .int m ∧ 0 ≤ m ∧ m < n
abbrev spDraw (K : PySem.W.Frag) : Sp := SpD K dealS preDraw postDraw
theorem lat_of {K : PySem.W.Frag} {H : Hp} {a : Addr} {vs : List V} (h : SqL K H a vs) : LAt K (fun _ => False) H a vs := h.imp (fun z => ⟨fun q => q, z⟩) fun z => .inr z
theorem same_sm {H H' : Hp} (e : Sm (fun _ => False) H H') : Same H H' := fun a o h => e a o (fun z => z) h
theorem valV_seed {s n : Int} {l : Addr} : valV (dealKv s n l) (.inr "seed") = some (.int s) := rfl
theorem valV_number {s n : Int} {l : Addr} : valV (dealKv s n l) (.inr "number") = some (.int n) := rfl
theorem valV_left {s n : Int} {l : Addr} : valV (dealKv s n l) (.inr "left") = some (.ref l) := rfl
theorem putK_seed {s n x : Int} {l : Addr} : putK (dealKv s n l) (.inr "seed") (.int x) = dealKv x n l := rfl
theorem putK_number {s n x : Int} {l : Addr} : putK (dealKv s n l) (.inr "number") (.int x) = dealKv s x l := rfl
end Dw

/-! DwDraw: a draw by a number that is written, within a def that has the source as its own; tuple of a list. -/
namespace Dw
open PySem PySem.Spec PyProof.Rows L2
section
variable {M : Md} {O : List Addr} {r : List Sl} {k : D → Prop} {te : TE}
theorem de_draw {g : Addr × Addr} {i : Nat} {n : Int} {E : XK} (h0 : M.F0 = dealS.F0 g) (hI : M.I = dealS.I g) (hr : r[i]? = some (.d (.ref g.1))) (n0 : 0 < n) (n1 : n < 1073741824) (h : ∀ m : Int, 0 ≤ m → m < n → k (.int m)) :
    De M (tCall (spDraw M.K) [] E (tCons (tVar i) (tCons (tC (.int n)) tNil))) O r k :=
  de_call g h0 hI (da_cons (de_var hr (da_cons (de_int (da_nil ⟨⟨n, rfl, n0, n1⟩, fun d ⟨a, m, ea, ed, m0, m1⟩ => by
    cases ea
    subst ed
    exact h m m0 m1⟩)))))
theorem de_thenTup (h : De M te O r fun x => ∃ xs, x = .lst xs ∧ k (.tup xs)) : De M (tThen te (kTup M.K)) O r k := fun σ H Q R z => h σ H _ R fun v H1 x R1 e1 p1 q => by
  obtain ⟨xs, rfl, q⟩ := q
  obtain ⟨a, vs, rfl, h1, h2⟩ := p1
  exact .inl ⟨a, vs, rfl, h1.sq, fun p hp => z _ _ (.tup xs) (R1.grow (sm_new hp)) (e1.trans (sm_0 (sm_new hp))) (rep_tup R1 hp h2) q⟩
/-- an if without an else, told once -/
theorem ds_ifN {tt : TT} {ts : TS} {E : Kn} (h : DT M tt O r fun b => b = true → DS M ts O r E) (n : E.nx O r) : DS M (tIfS tt ts tNext) O r E := ds_if (h.imp fun b hb => by
  cases b with
  | true => exact hb rfl
  | false => exact ds_next n)
theorem dt_andN {tt tu : TT} {C : Prop} (h : DT M tt O r fun b => b = true → DT M tu O r fun b => b = true → C) : DT M (tAnd tt tu) O r fun b => b = true → C := dt_and (h.imp fun b hb => by
  cases b with
  | true => exact hb rfl
  | false => exact fun z => nomatch z)
end
end Dw

/-! Dw9: two lists of one's own at once; one popped at a place, its item put on the other. -/
namespace Dw
open PySem PySem.Spec PyProof.Rows L2
section
variable {M : Md} {O : List Addr} {r : List Sl} {σ : L2.St} {H : Hp} {k : D → Prop} {te ta tb : TE} {E : Kn}
abbrev tListOf (K : PySem.W.Frag) (te : TE) : TE := tCB (fun xs H Q => ∃ p ys, xs = [.ref p] ∧ (SqL K H p ys ∨ SqT K H p ys) ∧ ∀ l, H l = none → Q (.ref l) (upd H l (.lst ys))) (tCons te tNil)
/-- a, b = list(x), [] -/
theorem ds_parOwn {i j : Nat} (hij : i ≠ j) (hi : i < r.length) (hj : j < r.length) (h : De M te O r fun x => ∃ xs, (x = .lst xs ∨ x = .tup xs) ∧ ∀ p q, p ∉ O → q ∉ O → p ≠ q → E.nx (q :: p :: O) ((r.set i (.mu p xs)).set j (.mu q []))) :
    DS M (tPar i j (tCons (tListOf M.K te) (tCons (tLst tNil) tNil))) O r E := fun σ H Z R z => h σ H _ R fun v H1 x R1 e1 p1 q => by
  obtain ⟨xs, hx, q⟩ := q
  have seq : ∃ a vs, v = .ref a ∧ (SqL M.K H1 a vs ∨ SqT M.K H1 a vs) ∧ RepL M.K (nf M O) H1 xs vs := by
    rcases hx with rfl | rfl
    · obtain ⟨a, vs, rfl, h1, h2⟩ := p1
      exact ⟨a, vs, rfl, .inl h1.sq, h2⟩
    · obtain ⟨a, vs, rfl, h1, h2⟩ := p1
      exact ⟨a, vs, rfl, .inr h1.sq, h2⟩
  obtain ⟨a, vs, rfl, h1, h2⟩ := seq
  refine ⟨a, vs, rfl, h1, fun p hp => ⟨Nat.zero_le _, fun s hs => ⟨.ref p, .ref s, rfl, ?_⟩⟩⟩
  have np : p ≠ s := fun z => by
    rw [z, upd_same] at hs
    cases hs
  have hs1 : H1 s = none := by
    rw [upd_ne np.symm] at hs
    exact hs
  have pO : p ∉ O := fun z => (R1.own p z).2 hp
  have sO : s ∉ O := fun z => (R1.own s z).2 hs1
  have noMu : ∀ (l : Nat) (ys : List D), r[l]? = some (.mu p ys) → False := fun l ys hy => pO (R1.slot l _ hy).2.1
  have noMs : ∀ (l : Nat) (ys : List D), r[l]? = some (.mu s ys) → False := fun l ys hy => sO (R1.slot l _ hy).2.1
  have Ra : Rp M (p :: O) (r.set i (.mu p xs)) (σ.set i (some (.ref p))) (upd H1 p (.lst vs)) := (R1.own1 hp).set (i := i) (v := .ref p) (s := .mu p xs) ⟨rfl, List.mem_cons_self, vs, upd_same, h2.own1 hp⟩ fun l xs e j ys hj hy => by
    cases e
    exact (noMu _ _ hy).elim
  have Rb : Rp M (s :: p :: O) ((r.set i (.mu p xs)).set j (.mu s [])) ((σ.set i (some (.ref p))).set j (some (.ref s))) (upd (upd H1 p (.lst vs)) s (.lst [])) := (Ra.own1 hs).set (i := j) (v := .ref s) (s := .mu s []) ⟨rfl, List.mem_cons_self, [], upd_same, .nil⟩ fun l xs e m ys hm hy => by
    cases e
    by_cases em : i = m
    · subst em
      rw [List.getElem?_set_self hi] at hy
      cases hy
      exact np rfl
    · rw [List.getElem?_set_ne em] at hy
      exact noMs _ _ hy
  have s1 : Stp M O H (p :: O) (upd H1 p (.lst vs)) := stp_new R1 e1 hp
  have s2 : Stp M (p :: O) (upd H1 p (.lst vs)) (s :: p :: O) (upd (upd H1 p (.lst vs)) s (.lst [])) := stp_new (R1.own1 hp) .refl hs
  exact z.nx _ _ _ _ Rb (Stp.trans Ra.inv s1 s2) (q p s pO sO np)
/-- b.append(a.pop(n)) -/
theorem ds_appendPop {i j : Nat} {p q : Addr} {xs ys : List D} (hi : r[i]? = some (.mu p xs)) (hj : r[j]? = some (.mu q ys)) (hij : i ≠ j) (hz : ys.length < sizeLine)
    (h : De M te O r fun d => ∃ n : Nat, d = .int n ∧ n < xs.length ∧ xs.length ≤ 1000000 ∧ ∀ x, xs[n]? = some x → E.nx O ((r.set i (.mu p (xs.eraseIdx n))).set j (.mu q (ys ++ [x])))) :
    DS M (tDrop (tBM M.K "list" rAppend (tVar j) (tCons (tBM M.K "list" rPopAt (tVar i) (tCons te tNil)) tNil))) O r E := fun σ H Z R z => by
  obtain ⟨e1, hp, vs, h1, h2⟩ := R.slot i _ hi
  obtain ⟨f1, hq, ws, g1, g2⟩ := R.slot j _ hj
  refine ⟨.ref q, f1, .inl ⟨rfl, ws, .inl (.inl g1)⟩, ?_⟩
  refine ⟨.ref p, e1, .inl ⟨rfl, vs, .inl (.inl h1)⟩, ?_⟩
  refine h σ H _ R fun v H1 d R1 e2 p1 q1 => ?_
  obtain ⟨n, rfl, hn, hz2, q1⟩ := q1
  obtain rfl : v = .int (n : Int) := p1
  obtain ⟨_, _, vs', h1', h2'⟩ := R1.slot i _ hi
  obtain ⟨_, _, ws', g1', g2'⟩ := R1.slot j _ hj
  obtain ⟨y, y1, y2⟩ := h2'.get (List.getElem?_eq_getElem hn)
  have hl : xs.length = vs'.length := h2'.length
  have npq : q ≠ p := fun e => by
    subst e
    exact hij (R1.one i j q xs ys hi hj)
  refine ⟨p, vs', n, n, y, rfl, rfl, h1', by omega, by omega, ?_, y1, ?_⟩
  · unfold seqIndex?
    rw [← hl]
    simp
    omega
  have R2 := R1.write hi (h2'.erase n)
  have hj2 : (r.set i (.mu p (xs.eraseIdx n)))[j]? = some (.mu q ys) := by rw [List.getElem?_set_ne hij]; exact hj
  obtain ⟨_, _, ws2, g3, g4⟩ := R2.slot j _ hj2
  refine ⟨q, ws2, y, rfl, rfl, g3, by rw [← g4.length]; exact hz, ?_⟩
  have sm : Sm (nf M O) H1 (upd H1 p (.lst (vs'.eraseIdx n))) := fun a o na e => by
    rw [upd_ne fun z => na (.inr (by rw [z]; exact hp))]
    exact e
  have R3 := R2.write hj2 (g4.append (.one (y2.mono sm)))
  have s1 : Stp M O H O (upd H1 p (.lst (vs'.eraseIdx n))) := stp_write R1 hi e2
  have s2 : Stp M O (upd H1 p (.lst (vs'.eraseIdx n))) O (upd (upd H1 p (.lst (vs'.eraseIdx n))) q (.lst (ws2 ++ [y]))) := stp_write R2 hj2 .refl
  exact z.nx O _ σ _ R3 (Stp.trans R2.inv s1 s2) (q1 _ (List.getElem?_eq_getElem hn))
end
end Dw

/-! Dw10: lists turned round, not in, three lists of one's own at once, the top of one list put on another. -/
namespace Dw
open PySem PySem.Spec PyProof.Rows L2
section
variable {M : Md} {O : List Addr} {r : List Sl} {σ : L2.St} {H : Hp} {k : D → Prop} {te ta tb : TE} {E : Kn}
theorem de_revL (h : De M te O r fun x => ∃ xs, x = .lst xs ∧ k (.lst xs.reverse)) : De M (tRevL M.K te) O r k := fun σ H Q R z => h σ H _ R fun v H1 x R1 e1 p1 q => by
  obtain ⟨xs, rfl, q⟩ := q
  obtain ⟨a, vs, rfl, h1, h2⟩ := p1
  exact ⟨a, vs, rfl, h1.sq, fun p hp => z _ _ (.lst xs.reverse) (R1.grow (sm_new hp)) (e1.trans (sm_0 (sm_new hp))) (rep_lst R1 hp h2.reverse) q⟩
theorem de_ninS (h : De M ta O r fun x => De M tb O r fun y => ∃ (s : Str) (ss : List Str), x = .str s ∧ (y = .lst (ss.map D.str) ∨ y = .tup (ss.map D.str)) ∧ k (.bl (!decide (s ∈ ss)))) : De M (tOp (rIn M.K true) ta tb) O r k := de_op2 h fun x y c σ H v u Q R pv pu z => by
  obtain ⟨s, ss, rfl, hy, q⟩ := c
  obtain rfl : v = .str s := pv
  have seq : ∃ a, u = .ref a ∧ (SqL M.K H a (ss.map V.str) ∨ SqT M.K H a (ss.map V.str)) := by
    rcases hy with rfl | rfl
    · obtain ⟨a, vs, rfl, h1, h2⟩ := pu
      have ev := repL_strs_of h2
      subst ev
      exact ⟨a, rfl, .inl h1.sq⟩
    · obtain ⟨a, vs, rfl, h1, h2⟩ := pu
      have ev := repL_strs_of h2
      subst ev
      exact ⟨a, rfl, .inr h1.sq⟩
  obtain ⟨a, rfl, hs⟩ := seq
  refine ⟨a, _, rfl, hs, rfl, all_flat ss, ?_⟩
  rw [if_pos rfl, in_strs]
  exact z _ H (.bl _) R .refl rfl q
/-- b.append((c, a.pop())) -/
theorem ds_appendTop {i j : Nat} {p q : Addr} {xs ys : List D} {x : D} {c : Str} (hi : r[i]? = some (.mu p (xs ++ [x]))) (hj : r[j]? = some (.mu q ys)) (hij : i ≠ j) (hz : ys.length < sizeLine)
    (h : E.nx O ((r.set i (.mu p xs)).set j (.mu q (ys ++ [.tup [.str c, x]])))) :
    DS M (tDrop (tBM M.K "list" rAppend (tVar j) (tCons (tTup (tCons (tC (.str c)) (tCons (tBM0 M.K "list" rPop (tVar i)) tNil))) tNil))) O r E := fun σ H Z R z => by
  obtain ⟨e1, hp, vs, h1, h2⟩ := R.slot i _ hi
  obtain ⟨f1, hq, ws, g1, g2⟩ := R.slot j _ hj
  have npq : q ≠ p := fun e => by
    subst e
    exact hij (R.one i j q _ ys hi hj)
  have hl := h2.length
  rw [List.length_append, List.length_singleton] at hl
  obtain ⟨y, y1, y2⟩ := h2.get (i := xs.length) (d := x) (by simp)
  have d2 : RepL M.K (nf M O) H xs vs.dropLast := by
    have t := h2.take xs.length
    rw [List.take_left' rfl] at t
    rw [List.dropLast_eq_take, ← hl, Nat.add_sub_cancel]
    exact t
  refine ⟨.ref q, f1, .inl ⟨rfl, ws, .inl (.inl g1)⟩, ?_⟩
  refine ⟨.ref p, e1, .inl ⟨rfl, vs, .inl (.inl h1)⟩, ?_⟩
  refine ⟨p, vs, y, rfl, rfl, h1, by rw [← hl, Nat.add_sub_cancel]; exact y1, ?_⟩
  have R2 := R.write hi d2
  have hj2 : (r.set i (.mu p xs))[j]? = some (.mu q ys) := by rw [List.getElem?_set_ne hij]; exact hj
  have sm : Sm (nf M O) H (upd H p (.lst vs.dropLast)) := fun a o na e => by
    rw [upd_ne fun z => na (.inr (by rw [z]; exact hp))]
    exact e
  refine ⟨by show 2 ≤ sizeLine; decide, fun t ht => ?_⟩
  have R3 := R2.grow (sm_new (o := .tup [.str c, y]) ht)
  obtain ⟨_, _, ws3, g3, g4⟩ := R3.slot j _ hj2
  refine ⟨q, ws3, .ref t, rfl, rfl, g3, by rw [← g4.length]; exact hz, ?_⟩
  have ry : RepL M.K (nf M O) (upd H p (.lst vs.dropLast)) [.str c, x] [.str c, y] := .cons rfl (.one (y2.mono sm))
  have R4 := R3.write hj2 (g4.append (.one (rep_tup R2 ht ry)))
  have s1 : Stp M O H O (upd H p (.lst vs.dropLast)) := stp_write R hi .refl
  have s2 : Stp M O (upd H p (.lst vs.dropLast)) O (upd (upd (upd H p (.lst vs.dropLast)) t (.tup [.str c, y])) q (.lst (ws3 ++ [.ref t]))) := stp_write (ws := ws3 ++ [.ref t]) R3 hj2 (sm_0 (sm_new ht))
  exact z.nx O _ σ _ R4 (Stp.trans R2.inv s1 s2) h
def noMu (r : List Sl) (p : Addr) : Prop := ∀ (j : Nat) (ys : List D), r[j]? = some (.mu p ys) → False
theorem noMu.set {p q : Addr} {i : Nat} {zs : List D} (h : noMu r p) (n : p ≠ q) : noMu (r.set i (.mu q zs)) p := fun j ys hj => by
  by_cases e : i = j
  · subst e
    by_cases hi : i < r.length
    · rw [List.getElem?_set_self hi] at hj
      cases hj
      exact n rfl
    · rw [List.getElem?_eq_none (by rw [List.length_set]; omega)] at hj
      cases hj
  · rw [List.getElem?_set_ne e] at hj
    exact h j ys hj
theorem noMu.out (R : Rp M O r σ H) {p : Addr} (n : p ∉ O) : noMu r p := fun j ys hj => n (R.slot j _ hj).2.1
theorem Rp.setMu {p : Addr} {i : Nat} {xs : List D} {vs : List V} (R : Rp M O r σ H) (hp : p ∈ O) (hH : H p = some (.lst vs)) (hr : RepL M.K (nf M O) H xs vs) (n : noMu r p) : Rp M O (r.set i (.mu p xs)) (σ.set i (some (.ref p))) H :=
  R.set (i := i) (v := .ref p) (s := .mu p xs) ⟨rfl, hp, vs, hH, hr⟩ fun l zs e j ys hj hy => by
    cases e
    exact (n _ _ hy).elim
/-- a, b, c, d = [], [], [], e -/
theorem ds_own3 {i j l m : Nat} (h : ∀ p q s, p ∉ O → q ∉ O → s ∉ O → p ≠ q → p ≠ s → q ≠ s → De M te (s :: q :: p :: O) r fun d => E.nx (s :: q :: p :: O) ((((r.set i (.mu p [])).set j (.mu q [])).set l (.mu s [])).set m (.d d))) :
    DS M (tAsg (tTup (tCons (tLst tNil) (tCons (tLst tNil) (tCons (tLst tNil) (tCons te tNil))))) (gTup M.K 4 (gCons (gName i) (gCons (gName j) (gCons (gName l) (gCons (gName m) gNil)))))) O r E := fun σ H Z R z => by
  refine ⟨Nat.zero_le _, fun p hp => ⟨Nat.zero_le _, fun q hq => ⟨Nat.zero_le _, fun s hs => ?_⟩⟩⟩
  have npq : p ≠ q := fun e => by
    rw [e, upd_same] at hq
    cases hq
  have nqs : q ≠ s := fun e => by
    rw [e, upd_same] at hs
    cases hs
  have hs1 : upd H p (.lst []) s = none := by
    rw [upd_ne nqs.symm] at hs
    exact hs
  have nps : p ≠ s := fun e => by
    rw [e, upd_same] at hs1
    cases hs1
  have pO : p ∉ O := fun y => (R.own p y).2 hp
  have qO : q ∉ O := fun y => (R.own q y).2 (by rw [upd_ne npq.symm] at hq; exact hq)
  have sO : s ∉ O := fun y => (R.own s y).2 (by rw [upd_ne nps.symm] at hs1; exact hs1)
  have Ra := R.own1 (o := .lst []) hp
  have Rb := Ra.own1 (o := .lst []) hq
  have Rc := Rb.own1 (o := .lst []) hs
  have s1 : Stp M O H (p :: O) (upd H p (.lst [])) := stp_new R .refl hp
  have s2 : Stp M (p :: O) (upd H p (.lst [])) (q :: p :: O) (upd (upd H p (.lst [])) q (.lst [])) := stp_new Ra .refl hq
  have s3 : Stp M (q :: p :: O) (upd (upd H p (.lst [])) q (.lst [])) (s :: q :: p :: O) (upd (upd (upd H p (.lst [])) q (.lst [])) s (.lst [])) := stp_new Rb .refl hs
  refine h p q s pO qO sO npq nps nqs σ _ _ Rc fun v H1 d R1 e1 p1 q1 => ⟨by show 4 ≤ sizeLine; decide, fun t ht => ?_⟩
  have R2 := R1.grow (sm_new (o := .tup [.ref p, .ref q, .ref s, v]) ht)
  have stay : ∀ a, a ∈ s :: q :: p :: O → ∀ o, (upd (upd (upd H p (.lst [])) q (.lst [])) s (.lst [])) a = some o → (upd H1 t (.tup [.ref p, .ref q, .ref s, v])) a = some o := fun a ha o e => by
    have z1 := e1 a o (fun f => M.tr a (M.f0 a f) (Rc.own a ha).1) e
    rw [upd_ne (ne_of_none z1 ht)]
    exact z1
  have hp3 := stay p (by simp) (.lst []) (by rw [upd_ne nps, upd_ne npq, upd_same])
  have hq3 := stay q (by simp) (.lst []) (by rw [upd_ne nqs, upd_same])
  have hs3 := stay s (by simp) (.lst []) upd_same
  have n0 : ∀ a, a ∉ O → noMu r a := fun a na => noMu.out R na
  have Rd := ((R2.setMu (i := i) (p := p) (xs := []) (by simp) hp3 .nil (n0 p pO)).setMu (i := j) (p := q) (xs := []) (by simp) hq3 .nil ((n0 q qO).set npq.symm)).setMu (i := l) (p := s) (xs := []) (by simp) hs3 .nil (((n0 s sO).set nps.symm).set nqs.symm)
  have Re := Rd.set (i := m) (v := v) (s := .d d) ⟨v, rfl, p1.mono (sm_0 (sm_new ht))⟩ (fun p xs e => nomatch e)
  have sq : SqT M.K (upd H1 t (.tup [.ref p, .ref q, .ref s, v])) t [.ref p, .ref q, .ref s, v] := .inl (.inl upd_same)
  refine ⟨t, _, rfl, sq, rfl, _, _, rfl, _, _, rfl, _, _, rfl, _, _, rfl, rfl, ?_⟩
  have s4 : Stp M (s :: q :: p :: O) (upd (upd (upd H p (.lst [])) q (.lst [])) s (.lst [])) (s :: q :: p :: O) (upd H1 t (.tup [.ref p, .ref q, .ref s, v])) := R2.stp (e1.trans (sm_0 (sm_new ht)))
  exact z.nx _ _ _ _ Re (Stp.trans Rc.inv (Stp.trans Rb.inv (Stp.trans Ra.inv s1 s2) s3) s4) q1
end
end Dw

/-! DwSet: sets whose members are scanned, of any kind of key: what stands in them, an item put in, all of them sorted. -/
namespace Dw
open PySem PySem.Spec PyProof.Rows L2
section
variable {P : Program} {w : World} {κ : Type} [DecidableEq κ]
/-- a value of the kind -/
def Gv (knd : PySem.KeyKind P w κ) (key : Value → κ) (v : Value) : Prop := knd.is (key v) v = true ∧ v.scannable = true
def Ge (knd : PySem.KeyKind P w κ) (key : Value → κ) (e : Int × Value) : Prop := Gv knd key e.2 ∧ e.1 = knd.hash (key e.2)
/-- the keys that stand in a row of entries -/
abbrev ksOf (key : Value → κ) (l : List (Int × Value)) : List κ := l.map fun e => key e.2
structure SetD (knd : PySem.KeyKind P w κ) (key : Value → κ) (S : κ → Bool) (n : Nat) (es : Array (Int × Value)) (t : SetTable) : Prop where
  good : ∀ e ∈ es.toList, Ge knd key e
  nodup : (ksOf key es.toList).Nodup
  mem : ∀ k, S k = true ↔ k ∈ ksOf key es.toList
  small : es.size < scanBound
  fits : t.fits es.size = true
  size : es.size = n
  ris : Ris t.place.toList
  led : w.params.followText "set-order" = true ∨ t.led = true
def SetG (knd : PySem.KeyKind P w κ) (key : Value → κ) (h : Heap) (a : Addr) (S : κ → Bool) (n : Nat) : Prop :=
  ∃ o es ep t, h.get? a = some o ∧ o.ExactSet ∧ o.data = .set es ep t ∧ SetD knd key S n es t
variable {knd : PySem.KeyKind P w κ} {key : Value → κ} {h h' : Heap} {a : Addr} {S : κ → Bool} {n : Nat}
theorem SetG.at (R : SetG knd key h a S n) (k : ∀ o, h.get? a = some o → h'.get? a = some o) : SetG knd key h' a S n := by
  obtain ⟨o, es, ep, t, ho, r⟩ := R
  exact ⟨o, es, ep, t, k o ho, r⟩
theorem gv_is {v : Value} (g : Gv knd key v) (k : κ) : knd.is k v = true ↔ key v = k := ⟨fun z => knd.inj v _ _ g.1 z, fun z => z ▸ g.1⟩
theorem elems_of {l : List (Int × Value)} (g : ∀ e ∈ l, Ge knd key e) : ElemsOf knd l := fun e he => ⟨⟨key e.2, (g e he).1.1, (g e he).2⟩, (g e he).1.2⟩
theorem ks_mem {l : List (Int × Value)} (g : ∀ e ∈ l, Ge knd key e) (k : κ) : k ∈ ksOf key l ↔ ∃ e ∈ l, knd.is k e.2 = true := by
  rw [List.mem_map]
  exact ⟨fun ⟨e, he, q⟩ => ⟨e, he, (gv_is (g e he).1 k).2 q⟩, fun ⟨e, he, q⟩ => ⟨e, he, (gv_is (g e he).1 k).1 q⟩⟩
theorem SetG.setOf (R : SetG knd key h a S n) : h.SetOf knd a S n := by
  obtain ⟨o, es, ep, t, ho, hx, hd, D⟩ := R
  exact ⟨o, es, ep, t, ho, hx, hd, elems_of D.good, fun k => (D.mem k).trans (ks_mem D.good k), D.small, D.fits, D.size⟩
theorem setG_fresh {h : Heap} : SetG knd key (h.push { cls := .type "set", dict := none, data := .set #[] 0 (.fresh 0 0 (!w.params.followText "set-order")) }) h.objs.size (fun _ => false) 0 := by
  obtain ⟨o, es, ep, t, ho, hx, hd, g, nd, hm, hb, hf, hn, hr, hl⟩ := setR_fresh (h := h) w
  have e0 : es = #[] := Array.eq_empty_of_size_eq_zero hn
  subst e0
  exact ⟨o, _, ep, t, ho, hx, hd, ⟨fun e he => (nomatch he), List.nodup_nil, fun k => ⟨fun z => (nomatch z), fun z => (nomatch z)⟩, hb, hf, hn, hr, hl⟩⟩
end
section
variable {P : Program} {w : World} {κ : Type} [DecidableEq κ] {knd : PySem.KeyKind P w κ} {key : Value → κ} {A : Around} {E : Value → Shared → Prop} {s : Shared} {a : Addr} {S : κ → Bool} {n : Nat}
/-- the entries are stored, and laid anew where the table is too full -/
theorem put_all {give : Bool → Sem Unit} (free : ∀ (b : Bool) (s1 : Shared) (Q' : Unit → Shared → Prop), Q' () s1 → wpAny (model P w) A (give b) Q' E s1)
    {o : Obj} {es es1 : Array (Int × Value)} {ep : Nat} {t t2 : SetTable} {S' : κ → Bool} {m : Nat} (ho : s.heap.get? a = some o) (hex : o.ExactSet) (hd : o.data = .set es ep t) (D : SetD knd key S' m es1 t2) {dummy : Bool} {R : Option Bool → Shared → Prop}
    (hR : ∀ h', Heap.SameBut a s.heap h' → SetG knd key h' a S' m → R (some true) { s with heap := h' }) :
    wpAny (model P w) A (do
        storeSet a es1 t2
        if (!dummy && t2.tooFull) = true then do
            give (relayAll t2 es1 (SetTable.grown es1.size)).2.2
            storeSet a (relayAll t2 es1 (SetTable.grown es1.size)).1 (relayAll t2 es1 (SetTable.grown es1.size)).2.1
            pure (some true)
          else pure (some true)) R E s := by
  refine wpAny_bind (wpAny_storeSet_of ho hd ?_ (fits_of_scanBound D.small))
  have o1 := store_at (es' := es1) (t' := t2) ho hd
  have u1 := Heap.SameBut.update s.heap a (Obj.putSet es1 t2)
  split
  · have pm := relayAll_perm t2 es1 (SetTable.grown es1.size)
    have ff := relayAll_fits t2 es1 (SetTable.grown es1.size)
    have rr := relayAll_ris t2 es1 (SetTable.grown es1.size)
    have ll := relayAll_led t2 es1 (SetTable.grown es1.size)
    generalize relayAll t2 es1 (SetTable.grown es1.size) = Z at pm ff rr ll ⊢
    obtain ⟨es2, t3, gave⟩ := Z
    dsimp only at pm ff rr ll ⊢
    have z2 : es2.size = es1.size := by rw [← Array.length_toList, pm.length_eq, Array.length_toList]
    have small : es2.size < scanBound := by rw [z2]; exact D.small
    refine wpAny_bind (free _ _ _ (wpAny_bind (wpAny_storeSet_of o1 rfl ?_ (fits_of_scanBound small))))
    have pk : (ksOf key es2.toList).Perm (ksOf key es1.toList) := pm.map _
    exact wpAny_pure (hR _ (u1.trans (Heap.SameBut.update _ a _)) ⟨_, es2, _, t3, store_at (es' := es2) (t' := t3) o1 rfl, hex, rfl,
      ⟨fun e he => D.good e (pm.mem_iff.mp he), pk.nodup_iff.mpr D.nodup, fun k => (D.mem k).trans pk.mem_iff.symm, small, ff, z2.trans D.size, rr, D.led.imp id fun z => by rw [ll]; exact z⟩⟩)
  · exact wpAny_pure (hR _ u1 ⟨_, es1, _, t2, o1, hex, rfl, D⟩)
/-- an item put in -/
theorem put_one {x : Value} {Q : Bool → Shared → Prop} (gx : Gv knd key x) (R : SetG knd key s.heap a S n) (room : n + 1 < scanBound)
    (hQ : ∀ h', Heap.SameBut a s.heap h' → SetG knd key h' a (fun j => S j || decide (j = key x)) (if S (key x) = true then n else n + 1) → Q (!S (key x)) { s with heap := h' }) :
    wpAny (model P w) A (setAddHashed a x (knd.hash (key x))) Q E s := by
  obtain ⟨o, es, ep, t, ho, hex, hd, D⟩ := R
  have el := elems_of D.good
  unfold setAddHashed setAddHashedIn
  refine wpAny_holding (wpAny_bind (wpAny_setState_of ho hd D.fits ?_))
  dsimp only
  rw [byScan_of gx.2 D.small el]
  simp only [↓reduceIte]
  unfold setAddByScan
  refine wpAny_bind (wpAny_bind (wpAny_rule (wpAny_bind (wpAny_setScan_of gx.1 ho hd D.fits el ?_))))
  cases found : List.findIdx? (fun e => knd.is (key x) e.2) es.toList with
  | some j =>
    dsimp only
    obtain ⟨hj, pj, _⟩ := List.findIdx?_eq_some_iff_getElem.mp found
    have yes : S (key x) = true := (D.mem _).2 ((ks_mem D.good _).2 ⟨es.toList[j], List.getElem_mem hj, pj⟩)
    refine wpAny_pure (wpAny_pure ?_)
    have q := hQ s.heap (Heap.SameBut.refl a s.heap) ⟨o, es, ep, t, ho, hex, hd, ⟨D.good, D.nodup, fun i => by
      rw [Bool.or_eq_true, decide_eq_true_eq, ← D.mem i]
      exact ⟨fun z => z.elim id (fun e => e ▸ yes), .inl⟩, D.small, D.fits, by rw [if_pos yes]; exact D.size, D.ris, D.led⟩⟩
    rw [yes] at q
    exact q
  | none =>
    dsimp only
    have new : key x ∉ ksOf key es.toList := fun z => by
      obtain ⟨e, he, q⟩ := (ks_mem D.good _).1 z
      have c := List.findIdx?_eq_none_iff.mp found e he
      rw [q] at c
      cases c
    have no : S (key x) = false := Bool.eq_false_iff.mpr fun q => new ((D.mem _).1 q)
    have tell : ∀ (b : Bool) {s1 : Shared} {Q' : Unit → Shared → Prop}, Q' () s1 → wpAny (model P w) A (match b with | true => rule "set.scan.the-table-gave-way" | false => pure ()) Q' E s1 :=
      fun b s1 Q' q => by cases b <;> first | exact wpAny_pure q | exact wpAny_rule q
    have pm := layNew_perm t es (knd.hash (key x)) x
    have ff := layNew_fits t es (knd.hash (key x)) x
    have rr := layNew_ris t es (knd.hash (key x)) x D.ris
    have ll := layNew_led t es (knd.hash (key x)) x
    generalize layNew t es (knd.hash (key x)) x = Z at pm ff rr ll ⊢
    obtain ⟨es1, t1, dummy, gave⟩ := Z
    dsimp only at pm ff rr ll ⊢
    rw [Array.toList_push] at pm
    have pc : es1.toList.Perm ((knd.hash (key x), x) :: es.toList) := pm.trans (List.perm_append_singleton _ _)
    have pk : (ksOf key es1.toList).Perm (key x :: ksOf key es.toList) := pc.map _
    have z1 : es1.size = n + 1 := by rw [← Array.length_toList, pc.length_eq, List.length_cons, Array.length_toList, D.size]
    have lead : w.params.followText "set-order" = true ∨ t1.led = true := D.led.imp id fun z => by rw [ll]; exact z
    have D1 : ∀ t2 : SetTable, t2.fits es1.size = true → Ris t2.place.toList → (w.params.followText "set-order" = true ∨ t2.led = true) → SetD knd key (fun j => S j || decide (j = key x)) (n + 1) es1 t2 := fun t2 f2 r2 l2 =>
      ⟨fun e he => (List.mem_cons.mp (pc.mem_iff.mp he)).elim (fun z => by rw [z]; exact ⟨gx, rfl⟩) (D.good e), pk.nodup_iff.mpr (List.nodup_cons.mpr ⟨new, D.nodup⟩), fun i => by
        rw [Bool.or_eq_true, decide_eq_true_eq, D.mem i, pk.mem_iff, List.mem_cons]
        exact Or.comm, by rw [z1]; exact room, f2, z1, r2, l2⟩
    have fin : ∀ h', Heap.SameBut a s.heap h' → SetG knd key h' a (fun j => S j || decide (j = key x)) (n + 1) → Q true { s with heap := h' } := fun h' sb r => by
      have q := hQ h' sb
      rw [no] at q
      exact q r
    refine wpAny_bind (tell _ ?_)
    split
    · refine wpAny_bind ?_
      rw [hashByValue_scannable 8 gx.2]
      refine wpAny_pure (put_all ?_ ho hex hd (D1 _ ?_ ?_ ?_) fun h' sb r => ?_)
      · intro b s1 Q' q; cases b <;> first | exact wpAny_pure q | exact wpAny_rule q
      · first | (split <;> first | exact ff | exact SetTable.fits_plain_off ff) | exact ff
      · first | (split <;> exact rr) | exact rr
      · first | (split <;> exact lead) | exact lead
      · dsimp only
        exact wpAny_pure (fin h' sb r)
    · refine wpAny_bind (wpAny_pure ?_)
      simp only [↓reduceIte]
      refine put_all ?_ ho hex hd (D1 _ ff rr lead) fun h' sb r => ?_
      · intro b s1 Q' q; cases b <;> first | exact wpAny_pure q | exact wpAny_rule q
      · dsimp only
        exact wpAny_pure (fin h' sb r)
end
end Dw

/-! DwSetT: sets of texts in the hand layer. -/
namespace Dw
open PySem PySem.Spec PyProof.Rows L2
def keyS (v : Value) : Str := match v with
  | .str x _ => x
  | _ => Str.empty
theorem gv_str (P : Program) (w : World) (x : Str) (t : Tok) : Gv (PySem.strKind P w) keyS (.str x t) := ⟨strKind_is P w x t, rfl⟩
theorem gv_shape {P : Program} {w : World} {v : Value} (g : Gv (PySem.strKind P w) keyS v) : ∃ t, v = .str (keyS v) t := by
  obtain ⟨t, e⟩ := Value.isStrOf_shape (x := keyS v) (v := v) g.1
  exact ⟨t, e⟩
/-- the set of texts at a: S its members, n of them -/
def SetX (P : Program) (w : World) (a : Addr) (S : Str → Bool) (n : Nat) : HO := .ext fun h => SetG (PySem.strKind P w) keyS h a S n
section
variable {P : Program} {w : World} {H : Hp} {h : Heap} {a : Addr} {S : Str → Bool} {n : Nat}
theorem setX_new (R : SetG (PySem.strKind P w) keyS h a S n) : ObjOk P w H h a (SetX P w a S n) := by
  have R' := R
  obtain ⟨o, es, ep, t, ho, r⟩ := R'
  exact ⟨R, ⟨o, ho⟩, fun h1 h2 z k => z.at fun o q => k o q⟩
theorem setX_get {pins : List (Addr × Obj)} {σ : L2.St} {X : Cx} {s : Shared} (I : Inv X pins σ H s) (ha : H a = some (SetX X.prog X.w a S n)) : SetG (PySem.strKind X.prog X.w) keyS s.heap a S n := by
  have x : ObjOk X.prog X.w H s.heap a (.ext fun h => SetG (PySem.strKind X.prog X.w) keyS h a S n) := I.hok a _ ha
  exact x.1
theorem setX_own {x : Addr} : SetX P w a S n ≠ .own x := fun z => by
  have z' : HO.ext _ = HO.own x := z
  cases z'
end
theorem strs_are : ∀ {vs : List Value}, (∀ v ∈ vs, ∃ t, v = Value.str (keyS v) t) → StrsAre vs (vs.map keyS)
  | [], _ => .nil
  | v :: vs, h => by
    obtain ⟨t, e⟩ := h v List.mem_cons_self
    have ih := strs_are (vs := vs) fun u hu => h u (List.mem_cons_of_mem _ hu)
    rw [List.map_cons]
    have e2 : keyS v = keyS v := rfl
    generalize keyS v = x at e ⊢
    subst e
    exact .cons _ _ ih
/-- sorted(a set of texts), fewer than 64 members -/
def rSortedX (P : Program) (w : World) : List V → Hp → VK → Prop := fun vs H Q => ∃ (a : Addr) (S : Str → Bool) (n : Nat), vs = [V.ref a] ∧ H a = some (SetX P w a S n) ∧ n < 64 ∧
  ∀ (ys : List Str) (p : Addr), ys.Nodup → sortedS ys = true → (∀ k : Str, k ∈ ys ↔ S k = true) → ys.length = n → H p = none → Q (.ref p) (upd H p (.lst (ys.map V.str)))
theorem cr_sortedX {X : Cx} (hc : X.calm = true) : CallR X (.builtin "sorted") (rSortedX X.prog X.w) := by
  intro pins s σ H vs us Q I r h
  obtain ⟨a, S, n, rfl, ha, h64, q⟩ := h
  obtain ⟨o, es, ep, t, ho, hex, hd, D⟩ := setX_get I ha
  rw [Vals.ref1 r]
  refine Calls.call_function_entry kind_sorted plain_sorted entry_sorted (args_sorted1 _) ?_
  unfold Builtin.«sorted»
  refine wpAny_bind (m := checkCount "sorted" 1 1 _) (wpAny_pure ?_)
  refine wpAny_bind (collect_set (A := X.A.in1) (I.ok.hd hc) ⟨o, ho, hex.1, hd⟩ D.fits D.small D.ris D.led fun s1 vs k1 hz g1 o1 pm => ?_)
  have len : vs.length = n := by rw [pm.length_eq, List.length_map, Array.length_toList]; exact D.size
  have shape : ∀ v ∈ vs, ∃ t, v = Value.str (keyS v) t := fun v hv => by
    obtain ⟨e, he, q⟩ := List.mem_map.mp (pm.mem_iff.mp hv)
    rw [← q]
    exact gv_shape (D.good e he).1
  have hS := strs_are shape
  have pk : (vs.map keyS).Perm (ksOf keyS es.toList) := by
    have q := pm.map keyS
    rw [List.map_map] at q
    exact q
  refine wpAny_bind (wpAny_newList ?_ (by rw [len, sizeLine_eq]; omega))
  have hoL : (s1.heap.push (seqObj "list" vs.toArray 0)).get? s1.heap.objs.size = some (seqObj "list" vs.toArray 0) := Heap.get?_push_size _ rfl
  refine wpAny_bind (wpAny_holding (wpAny_call_entry slot_list_sort ⟨_, hoL, rfl⟩ entry_list_sort
    (list_sort_treeK strKind_oneLt hoL hS.keysOf (fun v1 v2 rest e => keyKind_strs (by rw [← e]; exact hS)) (by rw [len]; exact h64) fun st' hp hs => ⟨_, rfl, ?_⟩) (args_list_sort _)))
  obtain ⟨ys, y1, y2, y3⟩ := sorted_out_str hS hp hs
  obtain ⟨c, hcell⟩ := sortedHeap_at (vs := vs) (out := (arrOf st').map (·.2)) hoL
  have pn : ys.Perm (ksOf keyS es.toList) := y2.trans pk
  have yl : ys.length = n := by rw [pn.length_eq, List.length_map, Array.length_toList]; exact D.size
  have keep : ∀ b u, s.heap.get? b = some u → (sortedHeap (s1.heap.push (seqObj "list" vs.toArray 0)) s1.heap.objs.size vs ((arrOf st').map (·.2))).get? b = some u := fun b u e => by
    have q := k1 b u e
    have hlt := Heap.lt_size q
    rw [sortedHeap_old (Nat.ne_of_lt hlt) (by rw [size_push']; exact Nat.lt_succ_of_lt hlt)]
    exact Heap.get?_push_of_some _ q
  have fresh : H s1.heap.objs.size = none := I.hok.fresh hz
  have ok : ObjOk X.prog X.w (upd H s1.heap.objs.size (.lst (ys.map V.str))) _ s1.heap.objs.size (.lst (ys.map V.str)) := ⟨by rw [List.length_map, yl, sizeLine_eq]; omega, ((arrOf st').map (·.2)).toList, c, vals_of_strs y1, by rw [Array.toArray_toList]; exact hcell⟩
  have J : Inv X pins σ (upd H s1.heap.objs.size (.lst (ys.map V.str))) { s with heap := sortedHeap (s1.heap.push (seqObj "list" vs.toArray 0)) s1.heap.objs.size vs ((arrOf st').map (·.2)), gens := s1.gens, drawn := s1.drawn, toks := s1.toks } :=
    I.call (ch := []) (Un.laid keep hz fresh) (I.hok.laid keep hz ok) (by rw [g1]; exact I.bare) (fun _ z => nomatch z)
  refine wpAny_pure ⟨_, rfl, ?_⟩
  have fin : EP X pins σ Q (.ref s1.heap.objs.size) { s with heap := sortedHeap (s1.heap.push (seqObj "list" vs.toArray 0)) s1.heap.objs.size vs ((arrOf st').map (·.2)), gens := s1.gens, drawn := s1.drawn, toks := s1.toks } :=
    ⟨.ref s1.heap.objs.size, _, J, rfl, q ys _ (pn.nodup_iff.mpr D.nodup) y3 (fun k => by rw [pn.mem_iff]; exact (D.mem k).symm) yl fresh⟩
  obtain ⟨hp1, g, d, tk, os⟩ := s1
  cases o1
  exact fin
end Dw

set_option maxHeartbeats 400000
/-! DwSc2: a set made by two fors. -/
namespace Dw
open PySem PySem.Spec PyProof.Rows L2
abbrev SC2 (elt a0 b0 a1 b1 : Expr) (f0 f1 : List Expr) (sc : Scope) (p : Pos) : Expr := .SetComp elt [⟨a0, b0, f0, 0⟩, ⟨a1, b1, f1, 0⟩] sc p
/-- the tests of a clause, one after another -/
abbrev tests (fs : List Expr) (env : Env) : Sem Bool := forIn fs true fun c r => if r = true then do let z ← isTrue c env (eval c env); pure (ForInStep.yield z) else pure (ForInStep.yield r)
section
variable {elt a0 b0 a1 b1 : Expr} {f0 f1 : List Expr} {sc : Scope} {p : Pos} {it acc : Value} {env : Env}
theorem turn2_out : compTurn (SC2 elt a0 b0 a1 b1 f0 f1 sc p) 0 it acc env = (do
    standAt b0.pos
    match ← pyNext it with
    | none => pure (.done .next)
    | some v =>
      letOwnedTupleGo a0 it v
      assign a0 env v
      let ok ← tests f0 env
      if ok then
        let x ← eval b1 env
        standAt b1.pos
        let x ← foldedSetIterable b1 env x
        let _ ← runOwn (.compStart (SC2 elt a0 b0 a1 b1 f0 f1 sc p) 1 (← holding [x] (pyIter x)) acc env) env
      again (.compLoop (SC2 elt a0 b0 a1 b1 f0 f1 sc p) 0 it acc env)) := by rfl
theorem turn2_in : compTurn (SC2 elt a0 b0 a1 b1 f0 f1 sc p) 1 it acc env = (do
    standAt b1.pos
    match ← pyNext it with
    | none => pure (.done .next)
    | some v =>
      letOwnedTupleGo a1 it v
      assign a1 env v
      let ok ← tests f1 env
      if ok then
        (do let y ← eval elt env
            standAt elt.pos
            let _ ← call (.builtin "set.add") [acc, y])
      again (.compLoop (SC2 elt a0 b0 a1 b1 f0 f1 sc p) 1 it acc env)) := by rfl
end
section
variable {prog : Program} {w : World} {A : Around} {R : Result → Shared → Prop} {s : Shared} {elt a0 b0 a1 b1 : Expr} {f0 f1 : List Expr} {sc : Scope} {p : Pos} {it acc : Value} {env : Env}
/-- what an error leads to -/
abbrev Er (prog : Program) (w : World) (A : Around) (env : Env) (R : Result → Shared → Prop) : Value → Shared → Prop := notedBy (model prog w) A env fun e s' => R (.error e) s'
theorem s2_out (nofold : ∀ x, foldedSetIterable b1 env x = pure x) (J : Nat → Shared → Prop)
    (turn : ∀ n s, J n s → wpAny (model prog w) A (pyNext it) (fun
      | none, s1 => R (.ok .next) s1
      | some v, s1 => wpAny (model prog w) A (letOwnedTupleGo a0 it v) (fun _ s2 => wpAny (model prog w) A (assign a0 env v) (fun _ s3 => wpAny (model prog w) A (tests f0 env) (fun ok s4 =>
          if ok = true then wpAny (model prog w) A (eval b1 env) (fun x s5 => wpAny (model prog w) A (pyIter x) (fun it1 s6 =>
            codeAny (model prog w) A (.compStart (SC2 elt a0 b0 a1 b1 f0 f1 sc p) 1 it1 acc env) (fun
              | .ok _, s' => ∃ m, m < n ∧ J m s'
              | .error _, _ => False) s6) (Er prog w A env R) s5) (Er prog w A env R) s4
          else ∃ m, m < n ∧ J m s4) (Er prog w A env R) s3) (Er prog w A env R) s2) (Er prog w A env R) s1) (Er prog w A env R) s)
    (n : Nat) (h : J n s) : codeAny (model prog w) A (.compLoop (SC2 elt a0 b0 a1 b1 f0 f1 sc p) 0 it acc env) R s := by
  refine codeAny_loop rfl J (fun n s j => ?_) n h
  refine wpAny_noted ?_
  rw [turn2_out]
  refine wpAny_bind (wpAny_standAt (wpAny_bind (wpAny_mono (turn n s j) (fun r s1 z => ?_) fun _ _ q => q)))
  rcases r with _ | v
  · exact wpAny_pure z
  refine wpAny_bind (wpAny_mono z (fun _ s2 z => wpAny_bind (wpAny_mono z (fun _ s3 z => wpAny_bind (wpAny_mono z (fun ok s4 z => ?_) fun _ _ q => q)) fun _ _ q => q)) fun _ _ q => q)
  cases ok
  · exact wpAny_pure ⟨rfl, z⟩
  refine wpAny_bind (wpAny_mono z (fun x s5 z => wpAny_bind (wpAny_standAt (wpAny_bind (wpAny_of_eq (nofold x) (wpAny_bind (wpAny_holding (wpAny_mono z (fun it1 s6 z => ?_) fun _ _ q => q)))))) ) fun _ _ q => q)
  refine wpAny_bind (wpAny_runOwn ?_)
  rw [Around.mark_none]
  refine codeAny_mono z fun r s' q => ?_
  rcases r with e | f
  · exact q.elim
  · first
      | exact wpAny_pure ⟨rfl, q⟩
      | exact wpAny_bind (wpAny_pure (wpAny_pure ⟨rfl, q⟩))
theorem s2_in (J : Nat → Shared → Prop)
    (turn : ∀ n s, J n s → wpAny (model prog w) A (pyNext it) (fun
      | none, s1 => R (.ok .next) s1
      | some v, s1 => wpAny (model prog w) A (letOwnedTupleGo a1 it v) (fun _ s2 => wpAny (model prog w) A (assign a1 env v) (fun _ s3 => wpAny (model prog w) A (tests f1 env) (fun ok s4 =>
          if ok = true then wpAny (model prog w) A (eval elt env) (fun y s5 => wpAny (model prog w) A (call (.builtin "set.add") [acc, y]) (fun _ s6 => ∃ m, m < n ∧ J m s6) (Er prog w A env R) s5) (Er prog w A env R) s4
          else ∃ m, m < n ∧ J m s4) (Er prog w A env R) s3) (Er prog w A env R) s2) (Er prog w A env R) s1) (Er prog w A env R) s)
    (n : Nat) (h : J n s) : codeAny (model prog w) A (.compLoop (SC2 elt a0 b0 a1 b1 f0 f1 sc p) 1 it acc env) R s := by
  refine codeAny_loop rfl J (fun n s j => ?_) n h
  refine wpAny_noted ?_
  rw [turn2_in]
  refine wpAny_bind (wpAny_standAt (wpAny_bind (wpAny_mono (turn n s j) (fun r s1 z => ?_) fun _ _ q => q)))
  rcases r with _ | v
  · exact wpAny_pure z
  refine wpAny_bind (wpAny_mono z (fun _ s2 z => wpAny_bind (wpAny_mono z (fun _ s3 z => wpAny_bind (wpAny_mono z (fun ok s4 z => ?_) fun _ _ q => q)) fun _ _ q => q)) fun _ _ q => q)
  cases ok
  · exact wpAny_pure ⟨rfl, z⟩
  exact wpAny_bind (wpAny_bind (wpAny_mono z (fun y s5 z => wpAny_bind (wpAny_standAt (wpAny_bind (wpAny_mono z (fun _ s6 q => wpAny_pure (wpAny_pure ⟨rfl, q⟩)) fun _ _ q => q)))) fun _ _ q => q))
/-- the second clause's start -/
theorem s2_start (h0 : codeAny (model prog w) A (.compLoop (SC2 elt a0 b0 a1 b1 f0 f1 sc p) 1 it acc env) R s)
    (h : wpAny (model prog w) A (pyIter it) (fun jt s' => codeAny (model prog w) A (.compLoop (SC2 elt a0 b0 a1 b1 f0 f1 sc p) 1 jt acc env) R s') (Er prog w A env R) s) :
    codeAny (model prog w) A (.compStart (SC2 elt a0 b0 a1 b1 f0 f1 sc p) 1 it acc env) R s := by
  refine codeAny_of_tree (wpAny_notedAt ?_)
  unfold compStart
  refine wpAny_bind (m := ask) (wpAny_askSetting (wpAny_ite ?_))
  split
  · first
      | exact wpAny_pure ⟨rfl, h0⟩
      | exact wpAny_bind (wpAny_pure (wpAny_pure ⟨rfl, h0⟩))
  · refine wpAny_bind (wpAny_rule ?_)
    exact wpAny_bind (m := standAt b1.pos) (wpAny_standAt (wpAny_bind (wpAny_mono h (fun _ _ q => wpAny_pure ⟨rfl, q⟩) fun _ _ q => q)))
end
theorem put_str {P : Program} {w : World} {A : Around} {E : Value → Shared → Prop} {s : Shared} {a : Addr} {S : Str → Bool} {n : Nat} {y : Str} {t : Tok} {Q : Bool → Shared → Prop} (R : SetG (PySem.strKind P w) keyS s.heap a S n) (room : n + 1 < scanBound)
    (hQ : ∀ h', Heap.SameBut a s.heap h' → SetG (PySem.strKind P w) keyS h' a (fun j => S j || decide (j = y)) (if S y = true then n else n + 1) → Q (!S y) { s with heap := h' }) :
    wpAny (model P w) A (setAddHashed a (.str y t) ((PySem.strKind P w).hash y)) Q E s := by
  have e : keyS (.str y t) = y := rfl
  have z := put_one (A := A) (E := E) (Q := Q) (gv_str P w y t) R room
  rw [e] at z
  exact z hQ
section
variable {X : Cx} {pins : List (Addr × Obj)} {σ : L2.St} {H : Hp} {s : Shared}
/-- a text put into a tracked set of texts -/
theorem addX_ok {E : Value → Shared → Prop} {D : Addr} {S : Str → Bool} {n : Nat} {y : Str} {v : Value} {Q : Value → Shared → Prop} (I : Inv X pins σ H s) (hD : H D = some (SetX X.prog X.w D S n)) (room : n + 1 < scanBound) (r : RelV (.str y) v)
    (h : ∀ s', Inv X pins σ (upd H D (SetX X.prog X.w D (fun j => S j || decide (j = y)) (if S y = true then n else n + 1))) s' → Q .none s') : wpAny (model X.prog X.w) X.A (call (.builtin "set.add") [.ref D, v]) Q E s := by
  obtain ⟨t, rfl⟩ : ∃ t, v = .str y t := r
  have R := setX_get I hD
  have z := R.setOf
  refine wpAny_call_entry F.slot_set_add z.typeIs F.entry_set_add ?_ (F.args_set_add_2 _ _)
  unfold Builtin.«set.add» Builtin.Frozenset.oneOther
  simp only [List.isEmpty_nil, bind_assoc]
  unfold Builtin.Frozenset.addrOf setAdd
  refine wpAny_bind (wpAny_pure (wpAny_bind (wpAny_pure (wpAny_bind (wpAny_holding (wpAny_bind ((PySem.strKind X.prog X.w).pyHash (strKind_is X.prog X.w y t) ?_)))))))
  refine put_str (s := { s with toks := s.toks + 1 }) R room fun h' sb new => ?_
  have he : ∃ u, h'.get? D = some u := by
    obtain ⟨o, _, _, _, ho, _⟩ := new
    exact ⟨o, ho⟩
  have J := I.write (t' := s.toks + 1) (by rw [hD]; trivial) (.inl rfl) (fun b u hb q => (sb.2 b hb).trans q) he (setX_new (H := upd H D (SetX X.prog X.w D (fun j => S j || decide (j = y)) (if S y = true then n else n + 1))) new)
  show wpAny _ _ (ret Value.none) _ _ _
  exact wpAny_pure ⟨_, rfl, h _ J⟩
end
end Dw

set_option maxHeartbeats 1000000
/-! DwSc3: {text for .. in .. if .. for .. in .. if ..} in the hand layer. -/
namespace Dw
open PySem PySem.Spec PyProof.Rows L2 PpSet
/-- in whatever block the comprehension is run -/
abbrev Blk (X : Cx) (sc : Scope) (F : Cx → Prop) : Prop := ∀ (t : Shared) (K : Hp) (c : Addr) (m : List (Str × Addr)) (fp : List Addr), F (X.blk t K sc (compEnvC sc m c X.env) fp)
/-- the text y goes into the set D, and N is reached -/
abbrev putX (P : Program) (w : World) (D : Addr) (N : Hp → Prop) : V → Hp → Prop := fun y K => ∃ (c : Str) (S : Str → Bool) (n : Nat), y = .str c ∧ K D = some (SetX P w D S n) ∧ n + 1 < scanBound ∧
  N (upd K D (SetX P w D (fun j => S j || decide (j = c)) (if S c = true then n else n + 1)))
/-- the inner loop, from behind the outer tests to N -/
def tIn (P : Program) (w : World) (i1 : TI) (g1 : TG) (t1 : TT) (te : TE) (vs1 : List Nat) (D : Addr) (N : Hp → Prop) (σ : L2.St) (K : Hp) : Prop :=
  i1 σ K fun J K1 => ∃ W : Nat → Nat → Hp → Prop, (∃ m, W 0 m K1) ∧ ∀ j k K2, W j k K2 → (J.stop j K2 ∧ N K2) ∨ (J.go j K2 ∧ ∃ M : Hp → Prop, (∀ K3, M K3 → ∃ k', k' < k ∧ W (j + 1) k' K3) ∧
    ∀ x K3, J.yld j K2 x K3 → g1 x (wipe σ vs1) K3 fun σ3 K4 => wipe σ3 vs1 = wipe σ vs1 ∧ t1 σ3 K4 fun b K5 => if b = true then te σ3 K5 (putX P w D M) else M K5)
def tSx2 (P : Program) (w : World) (i0 : TI) (g0 : TG) (t0 : TT) (i1 : TI) (g1 : TG) (t1 : TT) (te : TE) (vs vs1 : List Nat) : TE := fun σ H Q =>
  i0 σ H fun J K => ∀ D, K D = none → ∃ W : Nat → Nat → Hp → Prop, (∃ m, W 0 m (upd K D (SetX P w D (fun _ => false) 0))) ∧ ∀ j k K1, W j k K1 → (J.stop j K1 ∧ Q (.ref D) K1) ∨ (J.go j K1 ∧ ∃ N : Hp → Prop, (∀ K2, N K2 → ∃ k', k' < k ∧ W (j + 1) k' K2) ∧
    ∀ x K2, J.yld j K1 x K2 → g0 x (wipe σ vs) K2 fun σ2 K3 => wipe σ2 vs = wipe σ vs ∧ t0 σ2 K3 fun b K4 => if b = true then tIn P w i1 g1 t1 te vs1 D N σ2 K4 else N K4)
section
variable {X : Cx} {pins : List (Addr × Obj)} {σ : L2.St} {H : Hp} {s : Shared} {elt a0 b0 a1 b1 : Expr} {f0 f1 : List Expr} {sc : Scope} {p : Pos} {own : List (Str × Nat)} {vs1 : List Nat} {i0 i1 : TI} {g0 g1 : TG} {t0 t1 : TT} {te : TE}
theorem sx2_core {Q : VK} {p' : Pos} {use : Option (Value → Sem Unit)} {Qf : Value → Shared → Prop} (calm : X.calm = true) (nd : X.N.Nodup) (I : Inv X pins σ H s) (src : PI X a0 b0 i0) (ok : BlkOk X.N X.env.scope sc own) (sub : ∀ i ∈ vs1, i ∈ own.map (·.2))
    (hg : Blk X sc fun Y => PG Y a0 g0) (ht : Blk X sc fun Y => PTs Y f0 t0) (src1 : Blk X sc fun Y => PI Y a1 b1 i1) (hg1 : Blk X sc fun Y => PG Y a1 g1) (ht1 : Blk X sc fun Y => PTs Y f1 t1) (he : Blk X sc fun Y => PE Y elt te)
    (nf : ∀ x, foldedSetIterable b0 X.env x = pure x) (nf1 : ∀ e x, foldedSetIterable b1 e x = pure x) (h : tSx2 X.prog X.w i0 g0 t0 i1 g1 t1 te (own.map (·.2)) vs1 σ H Q)
    (out : ∀ D C s' m K, Inv X pins σ K s' → Q (.ref D) K → s'.heap.Ns C m → FpOk X pins K C → compPost (model X.prog X.w) X.A X.xe use Qf (.ref D) C (.ok .next) s') :
    wpAny (model X.prog X.w) X.A (comprehension (SC2 elt a0 b0 a1 b1 f0 f1 sc p) sc X.env p' (newSet (.type "set")) false (eval b0 X.env) use) Qf X.xe s := by
  have free : ∀ y ∈ sc.names, y.2 = .free → ∃ c, X.env.cells.lookup y.1 = some c := fun y hy e => (ok.free y hy e).elim (fun k => I.ok.has _ (.inl k)) fun k => I.ok.has _ (.inr k)
  refine wpAny_comprehension_free (use := use) rfl nf (closure_ok free) ok.kind (fun y hy e => by rw [ok.uniq y hy, e]) (thn (src.run pins s σ H _ I h) fun xv s1 hx => thn hx fun itv s2 z => ?_)
  obtain ⟨it, fp, tn, J, H2, rfl, I2, T, st2, f2, q⟩ := z
  refine newSet_ok (newEnv_comp ?_)
  generalize hD : s2.heap.objs.size = D
  have freeD : H2 D = none := I2.hok.fresh (Nat.le_of_eq hD)
  obtain ⟨W, ⟨m0, w0⟩, turn⟩ := q D freeD
  -- the new set
  generalize hs3 : ({ s2 with heap := s2.heap.push { cls := .type "set", dict := none, data := .set #[] 0 (.fresh 0 0 (!X.w.params.followText "set-order")) } } : Shared) = s3
  have I3 : Inv X pins σ (upd H2 D (SetX X.prog X.w D (fun _ => false) 0)) s3 := by
    subst hs3 hD
    exact I2.laid (t' := s2.toks) (fun b o e => Heap.get?_push_of_some _ e) (Nat.le_refl _) (setX_new setG_fresh)
  have h3 : s3.heap = s2.heap.push { cls := .type "set", dict := none, data := .set #[] 0 (.fresh 0 0 (!X.w.params.followText "set-order")) } := hs3 ▸ rfl
  have f3 : ∀ b ∈ fp, FpOk X pins (upd H2 D (SetX X.prog X.w D (fun _ => false) 0)) b ∧ b < s3.heap.objs.size := fun b hb => by
    obtain ⟨o, e, _⟩ := T.obj _ _ st2 b hb
    have lt := Heap.lt_size e
    exact ⟨⟨by rw [upd_ne (hD ▸ Nat.ne_of_lt lt)]; exact (f2 b hb).1, (f2 b hb).2⟩, by rw [h3, Heap.size_push]; exact Nat.lt_succ_of_lt lt⟩
  have st3 : tn 0 s3.heap := T.keep _ _ _ st2 fun b _ o e => by rw [h3]; exact Heap.get?_push_of_some _ e
  have I4 := block_start I3 ok nd f3
  generalize hH3 : upd H2 D (SetX X.prog X.w D (fun _ => false) 0) = H3 at I3 I4 w0 f3
  generalize hcl : cellsFrom (s3.heap.objs.size + 1) sc.names (cloFrom X.env.cells sc.names []) = cl at I4 ⊢
  have pg := hg s3 H3 s3.heap.objs.size cl fp
  have pt := ht s3 H3 s3.heap.objs.size cl fp
  have pi1 := src1 s3 H3 s3.heap.objs.size cl fp
  have pg1 := hg1 s3 H3 s3.heap.objs.size cl fp
  have pt1 := ht1 s3 H3 s3.heap.objs.size cl fp
  have pe := he s3 H3 s3.heap.objs.size cl fp
  have cL : (compEnvC sc cl s3.heap.objs.size X.env).locals = s3.heap.objs.size := rfl
  show codeAny _ _ (.compStart (SC2 elt a0 b0 a1 b1 f0 f1 sc p) 0 (.ref it) (.ref D) (compEnvC sc cl s3.heap.objs.size X.env)) (compPost (model X.prog X.w) X.A X.xe use Qf (.ref D) s3.heap.objs.size) { s3 with heap := pushCells (s3.heap.push { cls := .type "dict", data := .dict #[] }) sc.names }
  generalize hs4 : ({ s3 with heap := pushCells (s3.heap.push { cls := .type "dict", data := .dict #[] }) sc.names } : Shared) = s4 at I4 ⊢
  generalize compEnvC sc cl s3.heap.objs.size X.env = ce at I4 pg pt pi1 pg1 pt1 pe cL ⊢
  have st4 : tn 0 s4.heap := T.keep _ _ _ st3 fun b _ o e => by rw [← hs4]; exact pushCells_keeps _ _ _ _ (Heap.get?_push_of_some _ e)
  -- what stays apart from all that is tracked
  have apart : ∀ {σ' : L2.St} {K : Hp} {s' : Shared}, Inv (X.blk s3 H3 sc ce fp) [] σ' K s' → (∀ b ∈ fp, K b = none) → ∀ b ∈ fp, FpOk (X.blk s3 H3 sc ce fp) [] K b := fun {σ' K s'} J' hn b hb =>
    ⟨hn b hb, (J'.ok.exf b hb).1, J'.ok.exfs b hb, .inl hb, fun x c e => (J'.ok.exf b hb).2 x c e, fun q hq => absurd (show q ∈ ([] : List (Addr × Obj)) ++ [] from hq) (by simp)⟩
  have loop : codeAny (model X.prog X.w) X.A (.compLoop (SC2 elt a0 b0 a1 b1 f0 f1 sc p) 0 (.ref it) (.ref D) ce) (compPost (model X.prog X.w) X.A X.xe use Qf (.ref D) s3.heap.objs.size) s4 := by
    refine s2_out (nf1 ce) (fun n s' => ∃ i K, Inv (X.blk s3 H3 sc ce fp) [] (wipe σ (own.map (·.2))) K s' ∧ tn i s'.heap ∧ (∀ b ∈ fp, K b = none) ∧ W i n K) ?_ m0 ⟨0, H3, I4, st4, fun b hb => (f3 b hb).1.1, w0⟩
    rintro n s5 ⟨i, H5, I5, st5, n5, w5⟩
    rcases turn i n H5 w5 with ⟨stop, qq⟩ | ⟨go, N, hN, step⟩
    · refine thnF (T.done (X.blk s3 H3 sc ce fp) rfl rfl rfl calm i [] s5 _ H5 (fun _ _ => False) I5 (apart I5 n5) st5 stop) fun r s6 ⟨hr, I6⟩ => ?_
      subst hr
      have nC : H5 s3.heap.objs.size = none := by
        have z : H5 ce.locals = none := I6.free
        rw [cL] at z
        exact z
      obtain ⟨m, hn, _⟩ := I6.loc
      have hn : s6.heap.Ns ce.locals m := hn
      rw [cL] at hn
      exact out D _ s6 m H5 (I3.call' (ch := fp) I6.os I6.base I6.hok I6.bare fun b hb => let z := (f3 b hb).1.2; ⟨z.2.2.1, z.1, z.2.2.2.1, z.2.2.2.2⟩) qq hn (I3.fpOk (Nat.le_refl _) nC)
    · refine thnF (T.item (X.blk s3 H3 sc ce fp) rfl rfl rfl calm i [] s5 _ H5 (fun _ _ => False) I5 (apart I5 n5) st5 go) fun r s6 ⟨u, hr, h6⟩ => ?_
      subst hr
      refine thnF h6 fun _ s7 ⟨x, H7, I7, r7, y7, st7, n7⟩ => ?_
      have I7' := I7.pinned (apart I7 n7) (T.obj _ _ st7)
      refine thnF (pg.run _ s7 _ H7 x u _ I7' r7 (step x H7 y7)) fun _ s8 ⟨σ8, H8, I8, hw8, q8⟩ => ?_
      refine thnF (pt.run _ s8 σ8 H8 _ I8 q8) fun b s9 ⟨H9, I9, q9⟩ => ?_
      have fin : ∀ {σ9 : L2.St} {s' : Shared} {K : Hp}, Inv (X.blk s3 H3 sc ce fp) ([] ++ pinsAt fp s7.heap) σ9 K s' → (wipe σ (own.map (·.2))).length = σ9.length → (∀ (j : Nat) v, (wipe σ (own.map (·.2)))[j]? = some (some v) → σ9[j]? = some (some v)) → N K →
          ∃ m, m < n ∧ ∃ i K, Inv (X.blk s3 H3 sc ce fp) [] (wipe σ (own.map (·.2))) K s' ∧ tn i s'.heap ∧ (∀ b ∈ fp, K b = none) ∧ W i m K := fun {σ9 s' K} J' hl hk nx => by
        obtain ⟨m', hm, w'⟩ := hN K nx
        have still : ∀ b ∈ fp, ∀ o, s7.heap.get? b = some o → s'.heap.get? b = some o ∧ K b = none := fun b hb o e =>
          let z := J'.pin (b, o) (List.mem_append_right _ (List.mem_append_right _ (mem_pinsAt hb e)))
          ⟨z.1, z.2.1⟩
        exact ⟨m', hm, i + 1, K, (J'.unpinned (pins := [])).weak hl hk, T.keep _ _ _ st7 fun b hb o e => (still b hb o e).1, fun b hb => let ⟨o, e, _⟩ := T.obj _ _ st7 b hb; (still b hb o e).2, w'⟩
      have hl8 : (wipe σ (own.map (·.2))).length = σ8.length := by rw [← hw8, wipe_length]
      have hk8 : ∀ (j : Nat) v, (wipe σ (own.map (·.2)))[j]? = some (some v) → σ8[j]? = some (some v) ∧ j ∉ own.map (·.2) := fun j v e => by
        rw [← hw8] at e
        exact wipe_some e
      cases b with
      | false => exact fin I9 hl8 (fun j v e => (hk8 j v e).1) q9
      | true =>
        have q9 : tIn X.prog X.w i1 g1 t1 te vs1 D N σ8 H9 := q9
        show wpAny _ _ (eval b1 ce) _ _ _
        refine thnF (pi1.run _ s9 σ8 H9 _ I9 q9) fun xv s10 hx => thnF hx fun itv s11 h11 => ?_
        obtain ⟨jt, fq, tm, J1, H11, rfl, I11, T1, st11, f11, W1, ⟨m1, w1⟩, turn1⟩ := h11
        have apart1 : ∀ {K : Hp}, (∀ b ∈ fq, K b = none) → ∀ b ∈ fq, FpOk (X.blk s3 H3 sc ce fp) ([] ++ pinsAt fp s7.heap) K b := fun hn b hb => ⟨hn b hb, (f11 b hb).2⟩
        have inner : codeAny (model X.prog X.w) X.A (.compLoop (SC2 elt a0 b0 a1 b1 f0 f1 sc p) 1 (.ref jt) (.ref D) ce) (fun
            | .ok _, s' => ∃ m, m < n ∧ ∃ i K, Inv (X.blk s3 H3 sc ce fp) [] (wipe σ (own.map (·.2))) K s' ∧ tn i s'.heap ∧ (∀ b ∈ fp, K b = none) ∧ W i m K
            | .error _, _ => False) s11 := by
          refine s2_in (fun k s' => ∃ j K, Inv (X.blk s3 H3 sc ce fp) ([] ++ pinsAt fp s7.heap) (wipe σ8 vs1) K s' ∧ tm j s'.heap ∧ (∀ b ∈ fq, K b = none) ∧ W1 j k K) ?_ m1 ⟨0, H11, I11.weak (wipe_length _ _) (fun j v e => (wipe_some e).1), st11, fun b hb => (f11 b hb).1, w1⟩
          rintro k s12 ⟨j, H12, I12, st12, n12, w12⟩
          rcases turn1 j k H12 w12 with ⟨stop1, nx1⟩ | ⟨go1, M, hM, step1⟩
          · refine thnF (T1.done (X.blk s3 H3 sc ce fp) rfl rfl rfl calm j _ s12 (wipe σ8 vs1) H12 (fun _ _ => False) I12 (apart1 n12) st12 stop1) fun r s13 ⟨hr, I13⟩ => ?_
            subst hr
            exact fin I13 (hl8.trans (wipe_length σ8 vs1).symm) (fun j v e => by
              obtain ⟨e1, e2⟩ := hk8 j v e
              rw [wipe_out fun z => e2 (sub j z)]
              exact e1) nx1
          · refine thnF (T1.item (X.blk s3 H3 sc ce fp) rfl rfl rfl calm j _ s12 (wipe σ8 vs1) H12 (fun _ _ => False) I12 (apart1 n12) st12 go1) fun r s13 ⟨u1, hr, h13⟩ => ?_
            subst hr
            refine thnF h13 fun _ s14 ⟨x1, H14, I14, r14, y14, st14, n14⟩ => ?_
            have I14' := I14.pinned (apart1 n14) (T1.obj _ _ st14)
            refine thnF (pg1.run _ s14 (wipe σ8 vs1) H14 x1 u1 _ I14' r14 (step1 x1 H14 y14)) fun _ s15 ⟨σ15, H15, I15, hw15, q15⟩ => ?_
            refine thnF (pt1.run _ s15 σ15 H15 _ I15 q15) fun c s16 ⟨H16, I16, q16⟩ => ?_
            have fin1 : ∀ {s' : Shared} {K : Hp}, Inv (X.blk s3 H3 sc ce fp) (([] ++ pinsAt fp s7.heap) ++ pinsAt fq s14.heap) σ15 K s' → M K → ∃ m, m < k ∧ ∃ j K, Inv (X.blk s3 H3 sc ce fp) ([] ++ pinsAt fp s7.heap) (wipe σ8 vs1) K s' ∧ tm j s'.heap ∧ (∀ b ∈ fq, K b = none) ∧ W1 j m K := fun {s' K} J' nx => by
              obtain ⟨m', hm, w'⟩ := hM K nx
              have still : ∀ b ∈ fq, ∀ o, s14.heap.get? b = some o → s'.heap.get? b = some o ∧ K b = none := fun b hb o e =>
                let z := J'.pin (b, o) (List.mem_append_right _ (List.mem_append_right _ (mem_pinsAt hb e)))
                ⟨z.1, z.2.1⟩
              exact ⟨m', hm, j + 1, K, J'.unpinned.weak (by rw [← hw15, wipe_length]) (fun j v e => by rw [← hw15] at e; exact (wipe_some e).1), T1.keep _ _ _ st14 fun b hb o e => (still b hb o e).1, fun b hb => let ⟨o, e, _⟩ := T1.obj _ _ st14 b hb; (still b hb o e).2, w'⟩
            cases c with
            | false => exact fin1 I16 q16
            | true =>
              have q16 : te σ15 H16 (putX X.prog X.w D M) := q16
              show wpAny _ _ (eval elt ce) _ _ _
              refine thnF (pe.run _ s16 σ15 H16 _ I16 q16) fun z s17 ⟨yv, H17, I17, r17, c1, S0, n0, ey, hD17, room, nx⟩ => ?_
              subst ey
              exact addX_ok (X := X.blk s3 H3 sc ce fp) I17 hD17 room r17 fun s18 I18 => fin1 I18 nx
        exact s2_start inner (T1.self X.A 0 _ _ _ st11 inner)
  exact codeAny_compStart_set loop (T.self X.A 0 _ _ _ st4 loop)
/-- as a value -/
theorem pe_sx2 (calm : X.calm = true) (nd : X.N.Nodup) (src : PI X a0 b0 i0) (ok : BlkOk X.N X.env.scope sc own) (sub : ∀ i ∈ vs1, i ∈ own.map (·.2))
    (hg : Blk X sc fun Y => PG Y a0 g0) (ht : Blk X sc fun Y => PTs Y f0 t0) (src1 : Blk X sc fun Y => PI Y a1 b1 i1) (hg1 : Blk X sc fun Y => PG Y a1 g1) (ht1 : Blk X sc fun Y => PTs Y f1 t1) (he : Blk X sc fun Y => PE Y elt te)
    (nf : ∀ x, foldedSetIterable b0 X.env x = pure x := by intro _; rfl) (nf1 : ∀ e x, foldedSetIterable b1 e x = pure x := by intro _ _; rfl) :
    PE X (SC2 elt a0 b0 a1 b1 f0 f1 sc p) (tSx2 X.prog X.w i0 g0 t0 i1 g1 t1 te (own.map (·.2)) vs1) := by
  refine ⟨fun pins s σ H Q I h => ?_⟩
  rw [eval_SetComp]
  refine sx2_core calm nd I src ok sub hg ht src1 hg1 ht1 he nf nf1 h fun D C s' m K J q hn f => ⟨m, hn, fun _ sb => ?_⟩
  obtain ⟨z0, z1, z2, z3, z4, z5⟩ := f
  exact ⟨.ref D, K, J.turned (t' := s'.toks) (fun b o hb e => (sb.2 b hb).trans e) z0 z1 z3 z4 z5, rfl, q⟩
end
end Dw

set_option maxHeartbeats 1000000
/-! DwSc4: sorted({text for .. in .. for .. in ..}) over data. -/
namespace Dw
open PySem PySem.Spec PyProof.Rows L2
theorem len_sub : ∀ {l B : List Str}, l.Nodup → (∀ x ∈ l, x ∈ B) → l.length ≤ B.length
  | [], _, _, _ => Nat.zero_le _
  | x :: l, B, nd, h => by
    obtain ⟨n1, n2⟩ := List.nodup_cons.mp nd
    have hx := h x List.mem_cons_self
    have z := len_sub (l := l) (B := B.erase x) n2 fun y hy => (List.mem_erase_of_ne fun e => n1 (by rw [← e]; exact hy)).mpr (h y (List.mem_cons_of_mem _ hy))
    rw [List.length_erase_of_mem hx] at z
    have p := List.length_pos_of_mem hx
    show l.length + 1 ≤ _
    omega
section
variable {M : Md} {O : List Addr} {r : List Sl} {σ : L2.St} {H : Hp} {P : Program} {w : World} {a : Addr}
theorem noMuX {S : Str → Bool} {n : Nat} (R : Rp M O r σ H) (h : H a = some (SetX P w a S n)) : noMu r a := fun j ys hj => by
  obtain ⟨_, _, us, e, _⟩ := R.slot j _ hj
  rw [h] at e
  cases e
theorem sm_over {o : HO} : Sm (nf M (a :: O)) H (upd H a o) := fun b u n e => by
  rw [upd_ne fun z => n (.inr (by rw [z]; exact List.mem_cons_self))]
  exact e
/-- one's own object, in no slot, is written -/
theorem Rp.over {o : HO} (R : Rp M (a :: O) r σ H) (n : noMu r a) : Rp M (a :: O) r σ (upd H a o) := by
  have f0 : M.H0 a = none := (R.own a List.mem_cons_self).1
  have nF : ¬ M.F0 a := fun z => M.tr a (M.f0 a z) f0
  refine ⟨fun b u z e => ?_, M.st H _ R.inv fun b u f e => ?_, fun b hb => ⟨(R.own b hb).1, ?_⟩, R.nod, R.len, fun j t ht => ?_, R.one⟩
  · have ne : b ≠ a := fun q => by
      rw [q, f0] at e
      cases e
    rw [upd_ne ne]
    exact R.sm b u z e
  · rw [upd_ne fun q => nF (by rw [← q]; exact f)]
    exact e
  · by_cases q : b = a
    · rw [q, upd_same]
      exact fun z => nomatch z
    · rw [upd_ne q]
      exact (R.own b hb).2
  · have h1 := R.slot j t ht
    cases t with
    | un => trivial
    | d x =>
      obtain ⟨u, e2, h2⟩ := h1
      exact ⟨u, e2, h2.mono sm_over⟩
    | mu l zs =>
      obtain ⟨e2, hl, us, h2, h3⟩ := h1
      refine ⟨e2, hl, us, ?_, h3.mono sm_over⟩
      rw [upd_ne fun z => n j zs (by rw [← z]; exact ht)]
      exact h2
/-- the texts acc stand in the set at a, as many as differ -/
def SxAt (P : Program) (w : World) (a : Addr) (acc : List Str) (H : Hp) : Prop := ∃ l : List Str, l.Nodup ∧ (∀ k, k ∈ l ↔ k ∈ acc) ∧ H a = some (SetX P w a (fun k => decide (k ∈ acc)) l.length)
theorem SxAt.put {acc : List Str} {c : Str} {l : List Str} (nd : l.Nodup) (hm : ∀ k, k ∈ l ↔ k ∈ acc) :
    SxAt P w a (acc ++ [c]) (upd H a (SetX P w a (fun j => (fun k => decide (k ∈ acc)) j || decide (j = c)) (if (fun k => decide (k ∈ acc)) c = true then l.length else l.length + 1))) := by
  have e : (fun j => (fun k => decide (k ∈ acc)) j || decide (j = c)) = fun k => decide (k ∈ acc ++ [c]) := funext fun j => by simp
  rw [e]
  by_cases h : c ∈ acc
  · exact ⟨l, nd, fun k => by
      rw [List.mem_append, List.mem_singleton, hm]
      exact ⟨.inl, fun z => z.elim id fun z => z ▸ h⟩, by rw [upd_same]; simp [h]⟩
  · exact ⟨c :: l, List.nodup_cons.mpr ⟨fun z => h ((hm c).1 z), nd⟩, fun k => by
      rw [List.mem_append, List.mem_singleton, List.mem_cons, hm]
      exact Or.comm, by rw [upd_same]; simp [h]⟩
end
section
variable {M : Md} {O : List Addr} {r : List Sl} {P : Program} {w : World} {i0 i1 : TI} {g0 g1 : TG} {t0 t1 : TT} {te : TE} {vs vs1 js js1 : List Nat} {k : D → Prop}
theorem de_sortedSx2 (B : List Str) (hB : B.length < 64) (hjs : ∀ j ∈ js, j ∈ vs) (hjs1 : ∀ j ∈ js1, j ∈ vs1)
    (h : DI M i0 O r fun xs => ∃ zs : List (List Str), zs.length = xs.length ∧ (∀ z ∈ zs, ∀ y ∈ z, y ∈ B) ∧
      (∀ (O' : List Addr) (i : Nat) (x : D) (z : List Str), xs[i]? = some x → zs[i]? = some z → DG M g0 js O' (wipeR r vs) x fun r2 => DT M t0 O' r2 fun b => b = true ∧ DI M i1 O' r2 fun us => us.length = z.length ∧
        ∀ (O2 : List Addr) (j : Nat) (u : D) (c : Str), us[j]? = some u → z[j]? = some c → DG M g1 js1 O2 (wipeR r2 vs1) u fun r3 => DT M t1 O2 r3 fun b => b = true ∧ De M te O2 r3 fun y => y = .str c) ∧
      ∀ ys : List Str, ys.Nodup → sortedS ys = true → (∀ k, k ∈ ys ↔ ∃ z ∈ zs, k ∈ z) → k (.lst (ys.map D.str))) :
    De M (tCB (rSortedX P w) (tCons (tSx2 P w i0 g0 t0 i1 g1 t1 te vs vs1) tNil)) O r k := fun σ H Q R0 z => by
  refine h σ H _ R0 fun J H1 xs W R1 e1 g1' q => ?_
  obtain ⟨zs, hl, sub, turn, fin⟩ := q
  intro A hA
  have inB : ∀ {i j : Nat} {c : List Str}, zs[i]? = some c → ∀ y ∈ (zs.take i).flatten ++ c.take j, y ∈ B := fun {i j c} hc y hy => by
    rcases List.mem_append.mp hy with hy | hy
    · obtain ⟨l, h1, h2⟩ := List.mem_flatten.mp hy
      exact sub l (List.mem_of_mem_take h1) y h2
    · exact sub c (List.mem_of_getElem? hc) y (List.mem_of_mem_take hy)
  have inB0 : ∀ {i : Nat}, ∀ y ∈ (zs.take i).flatten, y ∈ B := fun {i} y hy => by
    obtain ⟨l, h1, h2⟩ := List.mem_flatten.mp hy
    exact sub l (List.mem_of_mem_take h1) y h2
  refine ⟨fun i m H2 => m = xs.length - i ∧ i ≤ xs.length ∧ SxAt P w A (zs.take i).flatten H2 ∧ Rp M (A :: O) r σ H2 ∧ Sm M.F0 H1 H2 ∧ W.G (nf M (A :: O)) H2, ⟨xs.length, by simp, Nat.zero_le _, ⟨[], List.nodup_nil, by simp, by rw [upd_same]; simp⟩, R1.own1 hA, sm_0 (sm_new hA), W.mono _ _ _ (sm_0 (sm_new hA)) (W.gen _ _ _ (fun a ha => (plus_of a ha).imp id fun z => by rw [z]; exact hA) g1')⟩, ?_⟩
  rintro i m H2 ⟨rfl, hi, hS, R2, e2, g2⟩
  have nA : ¬ M.F0 A := fun z => M.tr A (M.f0 A z) (R2.own A List.mem_cons_self).1
  by_cases hlt : i < xs.length
  · obtain ⟨zi, hzi⟩ : ∃ c, zs[i]? = some c := ⟨_, List.getElem?_eq_getElem (by rw [hl]; exact hlt)⟩
    have hflat : (zs.take (i + 1)).flatten = (zs.take i).flatten ++ zi := by
      rw [List.take_add_one, hzi, List.flatten_append]
      simp
    refine .inr ⟨W.go _ _ i g2 hlt, _, fun K p => ⟨xs.length - (i + 1), by omega, rfl, hlt, p⟩, fun x H3 y => ?_⟩
    obtain ⟨s3, p3⟩ := W.yld _ _ i x H3 _ (nf_tr R2) g2 y (List.getElem?_eq_getElem hlt)
    have R3 := R2.grow s3
    refine turn (A :: O) i _ zi (List.getElem?_eq_getElem hlt) hzi x _ H3 _ (R3.wipe vs) p3 fun σ4 r4 R4 w4 q4 => ⟨by rw [w4 vs hjs, wipe_wipe fun _ h => h], q4 σ4 H3 _ R4 fun b H5 R5 e5 q5 => ?_⟩
    obtain ⟨rfl, q5⟩ := q5
    rw [if_pos rfl]
    have e35 : Sm M.F0 H2 H5 := (sm_0 s3).trans e5
    refine q5 σ4 H5 _ R5 fun J1 H6 us W1 R6 e6 g6 q6 => ?_
    obtain ⟨hus, step⟩ := q6
    have e26 : Sm M.F0 H2 H6 := e35.trans e6
    have up : ∀ {acc : List Str} {K K' : Hp}, Sm M.F0 K K' → SxAt P w A acc K → SxAt P w A acc K' := fun e ⟨l, a1, a2, a3⟩ => ⟨l, a1, a2, e A _ nA a3⟩
    refine ⟨fun j n K => n = us.length - j ∧ j ≤ us.length ∧ SxAt P w A ((zs.take i).flatten ++ zi.take j) K ∧ Rp M (A :: O) r σ K ∧ Rp M (A :: O) r4 σ4 K ∧ Sm M.F0 H1 K ∧ W.G (nf M (A :: O)) K ∧ W1.G (nf M (A :: O)) K,
      ⟨us.length, by simp, Nat.zero_le _, by simpa using up e26 hS, R2.step e26 R6.inv, R6, e2.trans e26, W.mono _ _ _ (e26.wide nf0) g2, g6⟩, ?_⟩
    rintro j n K ⟨rfl, hj, hT, Ra, Rb, e7, g7, g8⟩
    by_cases hjt : j < us.length
    · obtain ⟨c, hc⟩ : ∃ c, zi[j]? = some c := ⟨_, List.getElem?_eq_getElem (by rw [← hus]; exact hjt)⟩
      have hcat : (zs.take i).flatten ++ zi.take (j + 1) = ((zs.take i).flatten ++ zi.take j) ++ [c] := by
        rw [List.take_add_one, hc, List.append_assoc]
        simp
      refine .inr ⟨W1.go _ _ j g8 hjt, _, fun K' p => ⟨us.length - (j + 1), by omega, rfl, hjt, p⟩, fun x1 K3 y1 => ?_⟩
      obtain ⟨s8, p8⟩ := W1.yld _ _ j x1 K3 _ (nf_tr Rb) g8 y1 (List.getElem?_eq_getElem hjt)
      refine step (A :: O) j _ c (List.getElem?_eq_getElem hjt) hc x1 _ K3 _ ((Rb.grow s8).wipe vs1) p8 fun σ9 r9 R9 w9 q9 => ⟨by rw [w9 vs1 hjs1, wipe_wipe fun _ h => h], q9 σ9 K3 _ R9 fun b K4 R10 e10 q10 => ?_⟩
      obtain ⟨rfl, q10⟩ := q10
      rw [if_pos rfl]
      refine q10 σ9 K4 _ R10 fun v K5 d R11 e11 p11 q11 => ?_
      subst q11
      have e75 : Sm M.F0 K K5 := ((sm_0 s8).trans e10).trans e11
      obtain ⟨l, l1, l2, l3⟩ := up e75 hT
      have small : l.length ≤ B.length := len_sub l1 fun y hy => inB hzi y ((l2 y).1 hy)
      refine ⟨c, _, l.length, p11, l3, by show l.length + 1 < 4096; omega, ?_⟩
      have Ra5 := Ra.step e75 R11.inv
      have Rb5 := Rb.step e75 R11.inv
      refine ⟨?_, Ra5.over (noMuX Ra5 l3), Rb5.over (noMuX Rb5 l3), fun b u n e => ?_, W.mono _ _ _ sm_over (W.mono _ _ _ (e75.wide nf0) g7), W1.mono _ _ _ sm_over (W1.mono _ _ _ (e75.wide nf0) g8)⟩
      · rw [hcat]
        exact SxAt.put l1 l2
      · have ne : b ≠ A := fun q => by
          rw [q, hA] at e
          cases e
        rw [upd_ne ne]
        exact e75 b u n (e7 b u n e)
    · have ej : j = us.length := by omega
      subst ej
      refine .inl ⟨W1.stop _ _ _ g8 (Nat.le_refl _), ?_, Ra, e7, g7⟩
      rw [hflat]
      rw [hus, List.take_length] at hT
      exact hT
  · have ei : i = xs.length := by omega
    subst ei
    refine .inl ⟨W.stop _ _ _ g2 (Nat.le_refl _), ?_⟩
    obtain ⟨l, l1, l2, l3⟩ := hS
    refine ⟨A, _, _, rfl, l3, Nat.lt_of_le_of_lt (len_sub l1 fun y hy => inB0 y ((l2 y).1 hy)) hB, fun ys p y1 y2 y3 _ hp => ?_⟩
    have e9 : Sm M.F0 H1 (upd H2 p (.lst (ys.map V.str))) := e2.trans (sm_0 (sm_new hp))
    have R9 : Rp M O r σ H2 := R1.step e2 R2.inv
    refine z (.ref p) _ (.lst (ys.map D.str)) (R9.grow (sm_new hp)) (e1.trans e9) (rep_lst R9 hp (strs_repL ys)) (fin ys y1 y2 fun k => ?_)
    rw [y3, decide_eq_true_eq, ← hl, List.take_length, List.mem_flatten]
end
end Dw

/-! DwSeq: a walk over what is a list or a tuple. -/
namespace Dw
open PySem PySem.Spec PyProof.Rows L2
/-- over a list or a tuple, whichever it is -/
def iSeq (K : PySem.W.Frag) (te : TE) : TI := fun σ H R => te σ H fun x K1 => ∃ a, x = .ref a ∧ (((∃ xs, SqL K K1 a xs) ∧ R (Itl K a) K1) ∨ ((∃ xs, SqT K K1 a xs) ∧ R (Itt K a) K1))
theorem pi_seq {X : Cx} {tg e : Expr} {te : TE} (he : PE X e te) : PI X tg e (iSeq X.K te) := by
  refine ⟨fun pins s σ H R I h => thn (he.run pins s σ H _ I h) fun v s1 ⟨x, K1, J, r, a, z, q⟩ => ?_⟩
  subst z
  cases r
  have new : ∀ b ∈ [s1.heap.objs.size], FpOk X pins K1 b := fun b hb => by
    rw [List.mem_singleton.mp hb]
    exact J.fpOk (Nat.le_refl _) (J.hok.fresh (Nat.le_refl _))
  rcases q with ⟨⟨xs, hq⟩, q⟩ | ⟨⟨xs, hq⟩, q⟩
  · obtain ⟨its, rv, p, hz⟩ := J.list hq
    exact wpAny_pyIter_list p.isList ⟨_, _, _, _, K1, rfl, J.kept (t' := s1.toks) fun b o e => Heap.get?_push_of_some _ e, turn_list a _, ⟨_, Heap.get?_push_size _ rfl, rfl, rfl⟩, new, q⟩
  · obtain ⟨its, rv, p, hz⟩ := J.tuple hq
    exact wpAny_pyIter_tuple (show s1.heap.IsTuple a its.toArray from p) ⟨_, _, _, _, K1, rfl, J.kept (t' := s1.toks) fun b o e => Heap.get?_push_of_some _ e, turn_tuple a _, ⟨_, Heap.get?_push_size _ rfl, rfl, rfl⟩, new, q⟩
theorem di_seq {M : Md} {O : List Addr} {r : List Sl} {k : List D → Prop} {te : TE} (h : De M te O r fun x => ∃ xs, (x = .lst xs ∨ x = .tup xs) ∧ k xs) : DI M (iSeq M.K te) O r k := fun σ H Q R z => h σ H _ R fun v H1 x R1 e1 p1 q => by
  obtain ⟨xs, c, q⟩ := q
  rcases c with rfl | rfl
  · obtain ⟨a, vs, rfl, h1, h2⟩ := p1
    exact ⟨a, rfl, .inl ⟨⟨vs, h1.sq⟩, z _ H1 xs (wk_list M.K a xs) R1 e1 ⟨vs, h1, h2⟩ q⟩⟩
  · obtain ⟨a, vs, rfl, h1, h2⟩ := p1
    exact ⟨a, rfl, .inr ⟨⟨vs, h1.sq⟩, z _ H1 xs (wk_tup M.K a xs) R1 e1 ⟨vs, h1, h2⟩ q⟩⟩
end Dw

/-! Wp1: what is read may be an own list too; operators lifted from values to trees. -/
namespace Dw
open PySem PySem.Spec PyProof.Rows L2
/-- a value that is read: data, or an own list -/
def RepV (K : PySem.W.Frag) (N0 N : No) (H : Hp) (d : D) (v : V) : Prop := Rep K N H d v ∨ ∃ xs a vs, d = .lst xs ∧ v = .ref a ∧ LAt K N0 H a vs ∧ RepL K N H xs vs
def RepS (K : PySem.W.Frag) (N : No) (H : Hp) (d : D) (v : V) : Prop := Rep K N H d v ∨ ∃ xs a vs, d = .lst xs ∧ v = .ref a ∧ SqL K H a vs ∧ RepL K N H xs vs
theorem RepV.s {K : PySem.W.Frag} {N0 N : No} {H : Hp} {d : D} {v : V} (h : RepV K N0 N H d v) : RepS K N H d v := by
  rcases h with h | ⟨xs, a, vs, e1, e2, h1, h2⟩
  · exact .inl h
  · exact .inr ⟨xs, a, vs, e1, e2, h1.sq, h2⟩
theorem RepV.step {M : Md} {O : List Addr} {H H' : Hp} {d : D} {v : V} (e : Sm M.F0 H H') (h : RepV M.K M.F0 (nf M O) H d v) : RepV M.K M.F0 (nf M O) H' d v := by
  rcases h with h | ⟨xs, a, vs, e1, e2, h1, h2⟩
  · exact .inl (h.step e)
  · exact .inr ⟨xs, a, vs, e1, e2, h1.mono e, h2.step e⟩
section
variable {K : PySem.W.Frag} {N : No} {H : Hp} {v : V}
theorem RepS.lst {xs : List D} (h : RepS K N H (.lst xs) v) : ∃ a vs, v = .ref a ∧ SqL K H a vs ∧ RepL K N H xs vs := by
  rcases h with ⟨a, vs, e, h1, h2⟩ | ⟨ys, a, vs, e0, e, h1, h2⟩
  · exact ⟨a, vs, e, h1.sq, h2⟩
  · cases e0
    exact ⟨a, vs, e, h1, h2⟩
theorem RepS.rep {d : D} (h : RepS K N H d v) (n : ∀ xs, d ≠ .lst xs) : Rep K N H d v := by
  rcases h with h | ⟨ys, a, vs, e0, _⟩
  · exact h
  · exact (n ys e0).elim
theorem RepS.tup {xs : List D} (h : RepS K N H (.tup xs) v) : ∃ a vs, v = .ref a ∧ SqT K H a vs ∧ RepL K N H xs vs := by
  obtain ⟨a, vs, e, h1, h2⟩ := h.rep fun _ z => nomatch z
  exact ⟨a, vs, e, h1.sq, h2⟩
theorem RepS.int {i : Int} (h : RepS K N H (.int i) v) : v = .int i := h.rep fun _ z => nomatch z
theorem RepS.str {i : Str} (h : RepS K N H (.str i) v) : v = .str i := h.rep fun _ z => nomatch z
theorem RepS.bl {i : Bool} (h : RepS K N H (.bl i) v) : v = .bl i := h.rep fun _ z => nomatch z
theorem RepS.non (h : RepS K N H .non v) : v = .non := h.rep fun _ z => nomatch z
theorem RepS.flat {d : D} {x : V} (e : d.v = some x) (h : RepS K N H d v) : v = x := by
  cases d <;> first
    | cases e
  · exact h.non
  · exact h.bl
  · exact h.int
  · exact h.str
theorem dpS_of {d : D} (p : d.pl = true) (h : RepS K N H d v) : Dp K H v d.py := by
  rcases h with h | ⟨xs, a, vs, rfl, rfl, h1, h2⟩
  · exact dp_of p h
  · exact .lst h1 (dpL_of (show D.plL xs = true from p) h2)
end
/-- rows of what is read -/
def RepSL (K : PySem.W.Frag) (N : No) (H : Hp) : List D → List V → Prop
  | [], vs => vs = []
  | d :: ds, vs => ∃ v r, vs = v :: r ∧ RepS K N H d v ∧ RepSL K N H ds r
def RepVL (K : PySem.W.Frag) (N0 N : No) (H : Hp) : List D → List V → Prop
  | [], vs => vs = []
  | d :: ds, vs => ∃ v r, vs = v :: r ∧ RepV K N0 N H d v ∧ RepVL K N0 N H ds r
theorem RepVL.s {K : PySem.W.Frag} {N0 N : No} {H : Hp} : ∀ {ds : List D} {vs : List V}, RepVL K N0 N H ds vs → RepSL K N H ds vs
  | [], _, h => h
  | d :: ds, _, ⟨v, r, e, h1, h2⟩ => ⟨v, r, e, h1.s, RepVL.s h2⟩
def Dv (M : Md) (te : TE) (O : List Addr) (r : List Sl) (k : D → Prop) : Prop :=
  ∀ σ H (Q : VK), Rp M O r σ H → (∀ v H' d, Rp M O r σ H' → Sm M.F0 H H' → RepV M.K M.F0 (nf M O) H' d v → k d → Q v H') → te σ H Q
def Dav (M : Md) (ta : TA) (O : List Addr) (r : List Sl) (k : List D → Prop) : Prop :=
  ∀ σ H (Q : List V → Hp → Prop), Rp M O r σ H → (∀ vs H' ds, Rp M O r σ H' → Sm M.F0 H H' → RepVL M.K M.F0 (nf M O) H' ds vs → k ds → Q vs H') → ta σ H Q
/-- what a rule by values asks, over trees: the answer is old data or stands in a larger heap -/
def Post (K : PySem.W.Frag) (N : No) (H : Hp) (k : D → Prop) (Q : VK) : Prop := ∀ w H' d, Sm (fun _ => False) H H' → Rep K N H' d w → k d → Q w H'
def Lift2 (K : PySem.W.Frag) (f : R2) (W : D → D → (D → Prop) → Prop) : Prop := ∀ (N : No) (H : Hp) (x y : D) (v u : V) (k : D → Prop) (Q : VK), (∀ a, N a → H a ≠ none) → RepS K N H x v → RepS K N H y u → W x y k → Post K N H k Q → f v u H Q
def Lift1 (K : PySem.W.Frag) (f : V → Hp → VK → Prop) (W : D → (D → Prop) → Prop) : Prop := ∀ (N : No) (H : Hp) (x : D) (v : V) (k : D → Prop) (Q : VK), (∀ a, N a → H a ≠ none) → RepS K N H x v → W x k → Post K N H k Q → f v H Q
def LiftL (K : PySem.W.Frag) (f : List V → Hp → VK → Prop) (W : List D → (D → Prop) → Prop) : Prop := ∀ (N : No) (H : Hp) (ds : List D) (vs : List V) (k : D → Prop) (Q : VK), (∀ a, N a → H a ≠ none) → RepSL K N H ds vs → W ds k → Post K N H k Q → f vs H Q
def LiftM (K : PySem.W.Frag) (f : V → List V → Hp → VK → Prop) (W : D → List D → (D → Prop) → Prop) : Prop := ∀ (N : No) (H : Hp) (x : D) (v : V) (ds : List D) (vs : List V) (k : D → Prop) (Q : VK), (∀ a, N a → H a ≠ none) → RepS K N H x v → RepSL K N H ds vs → W x ds k → Post K N H k Q → f v vs H Q
section
variable {K : PySem.W.Frag} {N : No} {H : Hp} {k : D → Prop} {Q : VK}
theorem Post.here (z : Post K N H k Q) {w : V} {d : D} (h : Rep K N H d w) (q : k d) : Q w H := z w H d .refl h q
theorem Post.newL (z : Post K N H k Q) (hN : ∀ a, N a → H a ≠ none) {xs : List D} {vs : List V} {p : Addr} (hp : H p = none) (h : RepL K N H xs vs) (q : k (.lst xs)) : Q (.ref p) (upd H p (.lst vs)) :=
  z _ _ (.lst xs) (sm_new hp) ⟨p, vs, rfl, .inl ⟨fun n => hN p n hp, .inl upd_same⟩, h.mono (sm_0 (sm_new hp))⟩ q
theorem Post.newT (z : Post K N H k Q) (hN : ∀ a, N a → H a ≠ none) {xs : List D} {vs : List V} {p : Addr} (hp : H p = none) (h : RepL K N H xs vs) (q : k (.tup xs)) : Q (.ref p) (upd H p (.tup vs)) :=
  z _ _ (.tup xs) (sm_new hp) ⟨p, vs, rfl, .inl ⟨fun n => hN p n hp, .inl upd_same⟩, h.mono (sm_0 (sm_new hp))⟩ q
end
section
variable {M : Md} {O : List Addr} {r : List Sl} {k : D → Prop} {kl : List D → Prop} {te ta tb : TE} {tl : TA}
theorem De.v (h : De M te O r k) : Dv M te O r k := fun σ H Q R z => h σ H Q R fun v H1 d R1 e1 p1 q => z v H1 d R1 e1 (.inl p1) q
theorem Dv.imp {k' : D → Prop} (h : Dv M te O r k) (i : ∀ d, k d → k' d) : Dv M te O r k' := fun σ H Q R z => h σ H Q R fun v H1 d R1 e1 p1 q1 => z v H1 d R1 e1 p1 (i d q1)
theorem Dav.imp {k' : List D → Prop} (h : Dav M tl O r kl) (i : ∀ d, kl d → k' d) : Dav M tl O r k' := fun σ H Q R z => h σ H Q R fun v H1 d R1 e1 p1 q1 => z v H1 d R1 e1 p1 (i d q1)
theorem dv_mu {i : Nat} {p : Addr} {xs : List D} (h : r[i]? = some (.mu p xs)) (q : k (.lst xs)) : Dv M (tVar i) O r k := fun σ H Q R z => by
  obtain ⟨e, hp, vs, h1, h2⟩ := R.slot i _ h
  exact ⟨.ref p, e, z (.ref p) H (.lst xs) R .refl (.inr ⟨xs, p, vs, rfl, rfl, .inl ⟨fun f => M.tr p (M.f0 p f) (R.own p hp).1, .inl h1⟩, h2⟩) q⟩
theorem RepVL.step {H H' : Hp} (e : Sm M.F0 H H') : ∀ {ds : List D} {vs : List V}, RepVL M.K M.F0 (nf M O) H ds vs → RepVL M.K M.F0 (nf M O) H' ds vs
  | [], _, h => h
  | d :: ds, _, ⟨v, r, e1, h1, h2⟩ => ⟨v, r, e1, h1.step e, RepVL.step e h2⟩
theorem dav_nil (q : kl []) : Dav M tNil O r kl := fun σ H Q R z => z [] H [] R .refl rfl q
theorem dav_cons (h : Dv M te O r fun x => Dav M tl O r fun xs => kl (x :: xs)) : Dav M (tCons te tl) O r kl := fun σ H Q R z => by
  refine h σ H _ R fun v H1 x R1 e1 p1 h1 => ?_
  exact h1 σ H1 _ R1 fun vs H2 xs R2 e2 p2 q2 => z (v :: vs) H2 (x :: xs) R2 (e1.trans e2) ⟨v, vs, rfl, p1.step e2, p2⟩ q2
theorem post_of {σ : L2.St} {H0 H : Hp} {Q : VK} (R : Rp M O r σ H) (e : Sm M.F0 H0 H) (z : ∀ v H' d, Rp M O r σ H' → Sm M.F0 H0 H' → Rep M.K (nf M O) H' d v → k d → Q v H') : Post M.K (nf M O) H k Q :=
  fun w H' d s p q => z w H' d (R.grow s) (e.trans (sm_0 s)) p q
theorem e_op2 {f : R2} {W : D → D → (D → Prop) → Prop} (L : Lift2 M.K f W) (h : Dv M ta O r fun x => Dv M tb O r fun y => W x y k) : De M (tOp f ta tb) O r k := fun σ H Q R z => by
  refine h σ H _ R fun v H1 x R1 e1 p1 h1 => h1 σ H1 _ R1 fun u H2 y R2 e2 p2 q => ?_
  exact L _ H2 x y v u k Q (nf_tr R2) (p1.step e2).s p2.s q (post_of R2 (e1.trans e2) z)
theorem e_un {f : V → Hp → VK → Prop} {W : D → (D → Prop) → Prop} (L : Lift1 M.K f W) (h : Dv M ta O r fun x => W x k) : De M (tUn f ta) O r k := fun σ H Q R z => by
  refine h σ H _ R fun v H1 x R1 e1 p1 q => ?_
  exact L _ H1 x v k Q (nf_tr R1) p1.s q (post_of R1 e1 z)
theorem e_cb {f : List V → Hp → VK → Prop} {W : List D → (D → Prop) → Prop} (L : LiftL M.K f W) (h : Dav M tl O r fun x => W x k) : De M (tCB f tl) O r k := fun σ H Q R z => by
  refine h σ H _ R fun v H1 x R1 e1 p1 q => ?_
  exact L _ H1 x v k Q (nf_tr R1) p1.s q (post_of R1 e1 z)
def D.tyIs : D → String → Prop
  | .str _, T => T = "str"
  | .lst _, T => T = "list"
  | .tup _, T => T = "tuple"
  | _, _ => False
theorem e_m1 {f : V → List V → Hp → VK → Prop} {W : D → List D → (D → Prop) → Prop} (L : LiftM M.K f W) (h : Dv M ta O r fun x => (∃ s, x = .str s) ∧ Dv M tb O r fun y => W x [y] k) : De M (tM1 f ta tb) O r k := fun σ H Q R z => by
  refine h σ H _ R fun v H1 x R1 e1 p1 ⟨⟨s, hs⟩, h1⟩ => ⟨⟨s, ?_⟩, h1 σ H1 _ R1 fun u H2 y R2 e2 p2 q => ?_⟩
  · subst hs
    exact p1.s.str
  · exact L _ H2 x v [y] [u] k Q (nf_tr R2) (p1.step e2).s ⟨u, [], rfl, p2.s, rfl⟩ q (post_of R2 (e1.trans e2) z)
theorem e_sl {f : V → Option Int → Option Int → Hp → VK → Prop} {W : D → Option Int → Option Int → (D → Prop) → Prop}
    (L : ∀ (N : No) (H : Hp) (x : D) (v : V) (i j : Option Int) (k : D → Prop) (Q : VK), (∀ a, N a → H a ≠ none) → RepS M.K N H x v → W x i j k → Post M.K N H k Q → f v i j H Q) {lo hi : TO}
    (h : Dv M te O r fun x => DO M lo O r fun i => DO M hi O r fun j => W x i j k) : De M (tSl f te lo hi) O r k := fun σ H Q R z => by
  refine h σ H _ R fun v H1 x R1 e1 p1 h1 => h1 σ H1 _ R1 fun i H2 R2 e2 h2 => h2 σ H2 _ R2 fun j H3 R3 e3 q => ?_
  exact L _ H3 x v i j k Q (nf_tr R3) ((p1.step e2).step e3).s q (post_of R3 ((e1.trans e2).trans e3) z)
end
end Dw

/-! Wp2: operators over trees: what they ask (W), the rules that serve them (op_..W), the lifts (l_..). -/
namespace Dw
open PySem PySem.Spec PyProof.Rows L2
/-- one of two ways -/
def W.ite (b : Bool) (p q : Prop) : Prop := (b = true → p) ∧ (b = false → q)
theorem W.ite_t {p q : Prop} : W.ite true p q ↔ p := ⟨fun h => h.1 rfl, fun h => ⟨fun _ => h, fun z => nomatch z⟩⟩
theorem W.ite_f {p q : Prop} : W.ite false p q ↔ q := ⟨fun h => h.2 rfl, fun h => ⟨(fun z => nomatch z), fun _ => h⟩⟩
/-- ways that join -/
def W.join {α : Type} (m : (α → Prop) → Prop) (k : α → Prop) : Prop := m k
theorem op_or2 {X : Cx} {f : Value → Value → Sem Value} {r r' : R2} (h : OpR X f r) (h' : OpR X f r') : OpR X f (fun x y H Q => r x y H Q ∨ r' x y H Q) := by
  intro pins s σ H x y v u Q I rx ry q
  rcases q with q | q
  · exact h pins s σ H x y v u Q I rx ry q
  · exact h' pins s σ H x y v u Q I rx ry q
theorem l_or2 {K : PySem.W.Frag} {r r' : R2} {W W1 W2 : D → D → (D → Prop) → Prop} (h : Lift2 K r W1) (h' : Lift2 K r' W2) (e : ∀ x y k, W x y k → W1 x y k ∨ W2 x y k) : Lift2 K (fun x y H Q => r x y H Q ∨ r' x y H Q) W :=
  fun N H x y v u k Q hN px py w z => (e x y k w).imp (fun q => h N H x y v u k Q hN px py q z) fun q => h' N H x y v u k Q hN px py q z
theorem Lift2.imp {K : PySem.W.Frag} {r : R2} {W W1 : D → D → (D → Prop) → Prop} (h : Lift2 K r W1) (e : ∀ x y k, W x y k → W1 x y k) : Lift2 K r W := fun N H x y v u k Q hN px py w z => h N H x y v u k Q hN px py (e x y k w) z
/-! ### whole numbers -/
def W.ii (C : Int → Int → Prop) (g : Int → Int → D) (x y : D) (k : D → Prop) : Prop := ∃ i j, x = .int i ∧ y = .int j ∧ C i j ∧ k (g i j)
theorem l_ii {K : PySem.W.Frag} {C : Int → Int → Prop} {g : Int → Int → V} {G : Int → Int → D} (hg : ∀ i j N H, Rep K N H (G i j) (g i j)) : Lift2 K (rI C g) (W.ii C G) := fun N H x y v u k Q hN px py w z => by
  obtain ⟨i, j, rfl, rfl, c, q⟩ := w
  exact ⟨i, j, px.int, py.int, c, z.here (hg i j N H) q⟩
theorem l_ii0 {K : PySem.W.Frag} {g : Int → Int → V} {G : Int → Int → D} (hg : ∀ i j N H, Rep K N H (G i j) (g i j)) : Lift2 K (rI0 g) (W.ii (fun _ _ => True) G) := fun N H x y v u k Q hN px py w z => by
  obtain ⟨i, j, rfl, rfl, c, q⟩ := w
  exact ⟨i, j, px.int, py.int, z.here (hg i j N H) q⟩
section
variable {X : Cx} {K : PySem.W.Frag}
/-! ### + -/
def W.add : D → D → (D → Prop) → Prop
  | .int i, .int j, k => k (.int (i + j))
  | .str a, .str b, k => a.length + b.length ≤ sizeLine ∧ k (.str (a ++ b))
  | .lst a, .lst b, k => a.length + b.length ≤ sizeLine ∧ k (.lst (a ++ b))
  | .tup a, .tup b, k => a.length + b.length ≤ sizeLine ∧ k (.tup (a ++ b))
  | _, _, _ => False
def rAddW (K : PySem.W.Frag) : R2 := fun x y H Q => rI0 (fun i j => .int (i + j)) x y H Q ∨ rAddS x y H Q ∨ Dw.rCatA K x y H Q ∨ L2.rCatA K x y H Q
theorem op_addW : OpR X (binaryOp .Add) (rAddW X.K) := op_or2 op_add (op_or2 op_add_str (op_or2 Dw.op_catA L2.op_catA))
theorem l_add : Lift2 K (rAddW K) W.add := fun N H x y v u k Q hN px py w z => by
  cases x <;> cases y <;> first
    | exact (show False from w).elim
    | skip
  case int.int i j => exact .inl ⟨i, j, px.int, py.int, z.here (d := .int (i + j)) rfl w⟩
  case str.str a b => exact .inr (.inl ⟨a, b, px.str, py.str, w.1, z.here (d := .str (a ++ b)) rfl w.2⟩)
  case lst.lst xs ys =>
    obtain ⟨a, vs, rfl, h1, h2⟩ := px.lst
    obtain ⟨b, ws, rfl, h3, h4⟩ := py.lst
    exact .inr (.inr (.inl ⟨a, b, vs, ws, rfl, rfl, h1, h3, by rw [← h2.length, ← h4.length]; exact w.1, fun p hp => z.newL hN hp (h2.append h4) w.2⟩))
  case tup.tup xs ys =>
    have pa := px.rep fun _ e => nomatch e
    have pb := py.rep fun _ e => nomatch e
    obtain ⟨a, vs, rfl, h1, h2⟩ := px.tup
    obtain ⟨b, ws, rfl, h3, h4⟩ := py.tup
    refine .inr (.inr (.inr ⟨a, b, vs, ws, rfl, rfl, h1, h3, by rw [← h2.length, ← h4.length]; exact w.1, fun e => ?_, fun _ e => ?_, fun _ _ p hp => z.newT hN hp (h2.append h4) w.2⟩))
    · subst e
      have e2 : xs = [] := List.length_eq_zero_iff.mp (by rw [h2.length]; rfl)
      subst e2
      exact z.here pb w.2
    · subst e
      have e2 : ys = [] := List.length_eq_zero_iff.mp (by rw [h4.length]; rfl)
      subst e2
      refine z.here pa ?_
      have := w.2
      rw [List.append_nil] at this
      exact this
/-! ### - * // % << >> & | ^ ~ -/
def W.sub (x y : D) (k : D → Prop) : Prop := W.ii (fun _ _ => True) (fun i j => .int (i - j)) x y k
theorem l_sub : Lift2 K (rI0 fun i j => .int (i - j)) W.sub := l_ii0 fun _ _ _ _ => rfl
def W.mod (x y : D) (k : D → Prop) : Prop := W.ii (fun _ j => 0 < j) (fun i j => .int (i % j)) x y k
theorem l_mod : Lift2 K (rI (fun _ j => 0 < j) fun i j => .int (i % j)) W.mod := l_ii fun _ _ _ _ => rfl
def W.fdiv (x y : D) (k : D → Prop) : Prop := W.ii CDiv (fun i j => .int (i / j)) x y k
theorem l_fdiv : Lift2 K (rI CDiv fun i j => .int (i / j)) W.fdiv := l_ii fun _ _ _ _ => rfl
def W.shl (x y : D) (k : D → Prop) : Prop := W.ii CPow (fun i j => .int (i * 2 ^ j.toNat)) x y k
theorem l_shl : Lift2 K (rI CPow fun i j => .int (i * 2 ^ j.toNat)) W.shl := l_ii fun _ _ _ _ => rfl
def W.shr (x y : D) (k : D → Prop) : Prop := W.ii (fun _ j => 0 ≤ j) (fun i j => .int (i / 2 ^ j.toNat)) x y k
theorem l_shr : Lift2 K (rI (fun _ j => 0 ≤ j) fun i j => .int (i / 2 ^ j.toNat)) W.shr := l_ii fun _ _ _ _ => rfl
def W.band (x y : D) (k : D → Prop) : Prop := W.ii (fun _ _ => True) (fun i j => .int (Builtin.bitAnd i j)) x y k
theorem l_band : Lift2 K (rI0 fun i j => .int (Builtin.bitAnd i j)) W.band := l_ii0 fun _ _ _ _ => rfl
def W.bor (x y : D) (k : D → Prop) : Prop := W.ii (fun _ _ => True) (fun i j => .int (Builtin.bitOr i j)) x y k
theorem l_bor : Lift2 K (rI0 fun i j => .int (Builtin.bitOr i j)) W.bor := l_ii0 fun _ _ _ _ => rfl
def W.bxor (x y : D) (k : D → Prop) : Prop := W.ii (fun _ _ => True) (fun i j => .int (Builtin.bitXor i j)) x y k
theorem l_bxor : Lift2 K (rI0 fun i j => .int (Builtin.bitXor i j)) W.bxor := l_ii0 fun _ _ _ _ => rfl
def W.i1 (g : Int → D) (x : D) (k : D → Prop) : Prop := ∃ i, x = .int i ∧ k (g i)
theorem l_i1 {g : Int → V} {G : Int → D} (hg : ∀ i N H, Rep K N H (G i) (g i)) : Lift1 K (rU g) (W.i1 G) := fun N H x v k Q hN px w z => by
  obtain ⟨i, rfl, q⟩ := w
  exact ⟨i, px.int, z.here (hg i N H) q⟩
def W.neg (x : D) (k : D → Prop) : Prop := W.i1 (fun i => .int (-i)) x k
theorem l_neg : Lift1 K (rU fun i => .int (-i)) W.neg := l_i1 fun _ _ _ => rfl
def W.inv (x : D) (k : D → Prop) : Prop := W.i1 (fun i => .int (Builtin.bitNot i)) x k
theorem l_inv : Lift1 K (rU fun i => .int (Builtin.bitNot i)) W.inv := l_i1 fun _ _ _ => rfl
/-- a list of any kind taken n times -/
theorem int_rmul_listW (a : Int) (t : Tok) (l : Addr) (items : Array Value) (n : Nat) (dd : Option Addr) (sl : Array (Option Value)) :
    Meets (Builtin.«int.__rmul__» ⟨[.int a t, .ref l], []⟩) (fun _ R s => s.heap.get? l = some { cls := .type "list", dict := dd, data := .seq items n, slots := sl } ∧ R (.ok (.ret Value.notImplemented)) s) :=
  .of_wp fun prog w A R s h => by obtain ⟨hp, g, d, tk, os⟩ := s; obtain ⟨hl, h⟩ := h; wp_walk; exact ⟨_, rfl, h⟩
theorem list_mulW (l : Addr) (items : Array Value) (n : Nat) (x : Int) (u : Tok) (dd : Option Addr) (sl : Array (Option Value)) (hc0 : ¬(!Builtin.List.listFitsIndex x) = true) (hc1 : ¬items.size * x.toNat > (2 ^ 63 - 1) / 8) (hc2 : ¬Builtin.List.listTooLong (items.size * x.toNat) = true) :
    Meets (Builtin.«list.__mul__» ⟨[.ref l, .int x u], []⟩) (fun _ R s => s.heap.get? l = some { cls := .type "list", dict := dd, data := .seq items n, slots := sl } ∧ R (.ok (.ret (Value.ref s.heap.objs.size))) { s with heap := s.heap.push { cls := Value.type "list", data := Data.seq (List.foldl (fun x1 x2 => x1 ++ x2) #[] (List.replicate (if items.isEmpty = true then 0 else x.toNat) items)) }, toks := s.toks }) :=
  .of_wp fun prog w A R s h => by
    obtain ⟨hp, g, d, tk, os⟩ := s; obtain ⟨hl, h⟩ := h
    have hsz := PySem.AutoListH.joined_fits hc2
    wp_walk; refine wpAny_ite_false (decide_eq_false (Nat.not_lt.mpr hsz)) ?_; wp_walk; exact ⟨_, rfl, h⟩
def rRepA (K : PySem.W.Frag) : R2 := fun x y H Q => ∃ l k xs, x = .ref l ∧ y = .int k ∧ SqL K H l xs ∧ -(2 ^ 63) ≤ k ∧ k < 2 ^ 63 ∧ xs.length * k.toNat ≤ sizeLine ∧ ∀ p, H p = none → Q (.ref p) (upd H p (.lst (List.replicate k.toNat xs).flatten))
theorem op_repA : OpR X (binaryOp .Mult) (rRepA X.K) := by
  intro pins s σ H x y v u Q I rx ry h
  obtain ⟨l, k, xs, rfl, rfl, hH, h1, h2, hz, q⟩ := h
  cases rx
  obtain ⟨t, rfl⟩ := ry
  obtain ⟨its, r, pl, hzz⟩ := I.list hH
  obtain ⟨⟨cls, dd, data, sls⟩, n, e, hc, hdn, hdt⟩ := pl
  simp only at hc hdt
  subst hc hdt
  have hl := r.length
  have hlen : its.toArray.size * k.toNat ≤ sizeLine := by rw [List.size_toArray, ← hl]; exact hz
  have hcap : ¬ its.toArray.size * k.toNat > (2 ^ 63 - 1) / 8 := by
    have : (sizeLine : Nat) ≤ (2 ^ 63 - 1) / 8 := by decide
    omega
  have hfit : ¬ (!Builtin.List.listFitsIndex k) = true := by
    rw [fitsIndex_both h1 h2]
    exact Bool.false_ne_true
  have hlong : ¬ Builtin.List.listTooLong (its.toArray.size * k.toNat) = true := by
    rw [notLongL hlen]
    exact Bool.false_ne_true
  have hnew : List.foldl (fun x1 x2 => x1 ++ x2) #[] (List.replicate (if its.toArray.isEmpty = true then 0 else k.toNat) its.toArray) = (List.replicate k.toNat its).flatten.toArray := by
    have f0 : ∀ m : Nat, List.foldl (fun x1 x2 => x1 ++ x2) #[] (List.replicate m its.toArray) = (List.replicate m its).flatten.toArray := fun m => by
      have := foldl_rep its m []
      rw [List.nil_append] at this
      exact this
    rw [f0]
    cases its with
    | nil => simp
    | cons a r' => rw [if_neg (by simp)]
  refine wpAny_binaryOp_repeat_ref (T := "list") (U := "int") (by decide) ⟨_, e, rfl⟩ (fun s' => typeIs_int s' k t) noFill_list_mul F.fills_int_mul F.slot_int_rmul repeat_list F.slot_int_index.lookup
    (call_meets F.slot_int_rmul (typeIs_int s k t) F.entry_int_rmul (F.args_int_rmul_2 _ _) (int_rmul_listW k t l its.toArray n dd sls)
      ⟨e, rfl, ⟨_, e, rfl⟩, call_meets F.slot_list_mul ⟨_, e, rfl⟩ F.entry_list_mul (F.args_list_mul_2 _ _) (list_mulW l its.toArray n k t dd sls hfit hcap hlong) ⟨e, ?_⟩⟩)
  rw [hnew]
  exact ⟨.ref _, _, I.lnew (t' := s.toks) (r.rep k.toNat) (by rw [PyProof.Rows.lm_len_rep_flat, Nat.mul_comm]; exact hz), rfl, q _ I.fresh⟩
def W.mul : D → D → (D → Prop) → Prop
  | .int i, .int j, k => CMul i j ∧ k (.int (i * j))
  | .str a, .int j, k => ∃ b : Bool, j = (if b then 1 else 0) ∧ k (.str (if b then a else Str.empty))
  | .lst a, .int j, k => (-(2 ^ 62) ≤ j ∧ j ≤ 2 ^ 62) ∧ a.length * j.toNat ≤ sizeLine ∧ k (.lst (List.replicate j.toNat a).flatten)
  | _, _, _ => False
def rMulW (K : PySem.W.Frag) : R2 := fun x y H Q => rI CMul (fun i j => .int (i * j)) x y H Q ∨ rMulS x y H Q ∨ rRepA K x y H Q
theorem op_mulW2 : OpR X (binaryOp .Mult) (rMulW X.K) := op_or2 op_mul (op_or2 op_mulS op_repA)
theorem repL_flat {N : No} {H : Hp} {xs : List D} {vs : List V} (h : RepL K N H xs vs) : ∀ m : Nat, RepL K N H (List.replicate m xs).flatten (List.replicate m vs).flatten
  | 0 => .nil
  | m + 1 => by
    rw [List.replicate_succ, List.replicate_succ, List.flatten_cons, List.flatten_cons]
    exact h.append (repL_flat h m)
theorem l_mul : Lift2 K (rMulW K) W.mul := fun N H x y v u k Q hN px py w z => by
  cases x <;> cases y <;> first
    | exact (show False from w).elim
    | skip
  case int.int i j => exact .inl ⟨i, j, px.int, py.int, w.1, z.here (d := .int (i * j)) rfl w.2⟩
  case str.int a j =>
    obtain ⟨b, rfl, q⟩ := w
    exact .inr (.inl ⟨a, b, px.str, py.int, z.here (d := .str (if b then a else Str.empty)) rfl q⟩)
  case lst.int xs j =>
    obtain ⟨⟨j0, j1⟩, hz, q⟩ := w
    obtain ⟨a, vs, rfl, h1, h2⟩ := px.lst
    exact .inr (.inr ⟨a, j, vs, rfl, py.int, h1, by omega, by omega, by rw [← h2.length]; exact hz, fun p hp => z.newL hN hp (repL_flat h2 _) q⟩)
/-! ### comparisons -/
def W.lt : D → D → (D → Prop) → Prop
  | .int i, .int j, k => k (.bl (decide (i < j)))
  | .str i, .str j, k => k (.bl (decide (i.cps.toList < j.cps.toList)))
  | _, _, _ => False
def rLtW : R2 := fun x y H Q => rI0 (fun i j => .bl (decide (i < j))) x y H Q ∨ ∃ i j, x = .str i ∧ y = .str j ∧ Q (.bl (decide (i.cps.toList < j.cps.toList))) H
theorem op_ltW : OpR X (compareOp .Lt) rLtW := op_or2 op_lt op_lt_str
theorem l_lt : Lift2 K rLtW W.lt := fun N H x y v u k Q hN px py w z => by
  cases x <;> cases y <;> first
    | exact (show False from w).elim
    | skip
  case int.int i j => exact .inl ⟨i, j, px.int, py.int, z.here (d := .bl _) rfl w⟩
  case str.str i j => exact .inr ⟨i, j, px.str, py.str, z.here (d := .bl _) rfl w⟩
def W.le (x y : D) (k : D → Prop) : Prop := W.ii (fun _ _ => True) (fun i j => .bl (decide (i ≤ j))) x y k
theorem l_le : Lift2 K (rI0 fun i j => .bl (decide (i ≤ j))) W.le := l_ii0 fun _ _ _ _ => rfl
def W.gt (x y : D) (k : D → Prop) : Prop := W.ii (fun _ _ => True) (fun i j => .bl (decide (j < i))) x y k
theorem l_gt : Lift2 K (rI0 fun i j => .bl (decide (j < i))) W.gt := l_ii0 fun _ _ _ _ => rfl
def W.ge (x y : D) (k : D → Prop) : Prop := W.ii (fun _ _ => True) (fun i j => .bl (decide (j ≤ i))) x y k
theorem l_ge : Lift2 K (rI0 fun i j => .bl (decide (j ≤ i))) W.ge := l_ii0 fun _ _ _ _ => rfl
/-- data that == reads through -/
def D.deep (x : D) : Prop := x.pl = true ∧ x.py.depth ≤ 64
def W.eq (x y : D) (k : D → Prop) : Prop := (∃ a b, x.v = some a ∧ y.v = some b ∧ scal a b = true ∧ k (.bl (decide (a = b)))) ∨ (x.deep ∧ y.deep ∧ k (.bl (PyData.eqv x.py y.py)))
def W.ne (x y : D) (k : D → Prop) : Prop := (∃ a b, x.v = some a ∧ y.v = some b ∧ scal a b = true ∧ k (.bl (!decide (a = b)))) ∨ (x.deep ∧ y.deep ∧ k (.bl (!PyData.eqv x.py y.py)))
def rEqW (K : PySem.W.Frag) : R2 := fun x y H Q => rEq x y H Q ∨ rEqD K x y H Q
def rNeW (K : PySem.W.Frag) : R2 := fun x y H Q => rNe x y H Q ∨ rNeD K x y H Q
theorem op_eqW (hu : X.A.units + 64 < cLine) : OpR X (compareOp .Eq) (rEqW X.K) := op_or2 op_eq (op_eqD hu)
theorem op_neW (hu : X.A.units + 64 < cLine) : OpR X (compareOp .NotEq) (rNeW X.K) := op_or2 op_ne (op_neD hu)
theorem D.deep.shaped {x : D} (h : x.deep) : SeqAt.shaped x.py = true := by
  unfold SeqAt.shaped
  rw [(py_show x h.1).2, decide_eq_true h.2]
  rfl
theorem l_eq : Lift2 K (rEqW K) W.eq := fun N H x y v u k Q hN px py w z => by
  rcases w with ⟨a, b, ha, hb, hs, q⟩ | ⟨hx, hy, q⟩
  · left
    rw [px.flat ha, py.flat hb]
    exact ⟨hs, z.here (d := .bl _) rfl q⟩
  · exact .inr ⟨x.py, y.py, dpS_of hx.1 px, dpS_of hy.1 py, hx.shaped, hy.shaped, z.here (d := .bl _) rfl q⟩
theorem l_ne : Lift2 K (rNeW K) W.ne := fun N H x y v u k Q hN px py w z => by
  rcases w with ⟨a, b, ha, hb, hs, q⟩ | ⟨hx, hy, q⟩
  · left
    rw [px.flat ha, py.flat hb]
    exact ⟨hs, z.here (d := .bl _) rfl q⟩
  · exact .inr ⟨x.py, y.py, dpS_of hx.1 px, dpS_of hy.1 py, hx.shaped, hy.shaped, z.here (d := .bl _) rfl q⟩
/-- is None -/
def W.isN (x : D) (k : D → Prop) : Prop := (x = .non ∧ k (.bl true)) ∨ (x ≠ .non ∧ k (.bl false))
/-! ### in -/
def D.flatB (x : D) : Bool := x.v.isSome
/-- flat values alike -/
def D.alike (y x : D) : Bool := match y.v, x.v with
  | some a, some b => eqV a b
  | _, _ => false
def W.isIn (neg : Bool) (x y : D) (k : D → Prop) : Prop :=
  (∃ ys, (y = .lst ys ∨ y = .tup ys) ∧ x.flatB = true ∧ ys.all D.flatB = true ∧ k (.bl (neg != ys.any fun z => z.alike x))) ∨
  (∃ ys, y = .lst ys ∧ x.deep ∧ y.deep ∧ k (.bl (neg != ys.any fun z => PyData.eqv z.py x.py))) ∨
  (∃ (c : Nat) (s : Str), x = .str ⟨#[c]⟩ ∧ y = .str s ∧ k (.bl (neg != decide (c ∈ s.cps.toList))))
def rInW (K : PySem.W.Frag) : R2 := fun x y H Q => rIn K false x y H Q ∨ rInD K x y H Q ∨ ∃ (c : Nat) (z : Str), x = .str ⟨#[c]⟩ ∧ y = .str z ∧ Q (.bl (decide (c ∈ z.cps.toList))) H
def rNinW (K : PySem.W.Frag) : R2 := fun x y H Q => rIn K true x y H Q ∨ rNotInD K x y H Q ∨ ∃ (c : Nat) (z : Str), x = .str ⟨#[c]⟩ ∧ y = .str z ∧ Q (.bl (!decide (c ∈ z.cps.toList))) H
theorem op_inW (hu : X.A.units + 65 < cLine) : OpR X (compareOp .In) (rInW X.K) := op_or2 op_in_seq (op_or2 (op_inD hu) op_in_sign)
theorem op_ninW (hu : X.A.units + 65 < cLine) : OpR X (compareOp .NotIn) (rNinW X.K) := op_or2 op_notIn_seq (op_or2 (op_notInD hu) op_notIn_sign)
theorem flat_repL {N : No} {H : Hp} : ∀ {ds : List D} {vs : List V}, ds.all D.flatB = true → RepL K N H ds vs → vs.all flatV = true ∧ ∀ (x : D) (v : V), x.v = some v → inV v vs = ds.any fun z => z.alike x
  | [], _, _, h => by
    obtain rfl := (show _ = [] from h)
    exact ⟨rfl, fun _ _ _ => rfl⟩
  | d :: ds, _, f, ⟨v, r, rfl, h1, h2⟩ => by
    rw [List.all_cons, Bool.and_eq_true] at f
    obtain ⟨a1, a2⟩ := flat_repL f.2 h2
    obtain ⟨w, hw⟩ := Option.isSome_iff_exists.mp f.1
    obtain rfl := D.v_rep hw h1
    have fw : flatV v = true := by
      cases d <;> first
        | (cases hw; rfl)
        | cases hw
    refine ⟨by rw [List.all_cons, fw, a1]; rfl, fun x u hx => ?_⟩
    have e := a2 x u hx
    unfold inV at e ⊢
    rw [List.any_cons, List.any_cons, e]
    unfold D.alike
    rw [hw, hx]
theorem py_any {ys : List D} {x : PyData} : (D.pyL ys).any (fun z => PyData.eqv z x) = ys.any fun z => PyData.eqv z.py x := by
  induction ys with
  | nil => rfl
  | cons y ys ih =>
    show (PyData.eqv y.py x || (D.pyL ys).any _) = _
    rw [ih]
    rfl
theorem flat_fl {x : D} {v : V} (h : x.v = some v) : flatV v = true := by
  cases x <;> first
    | (cases h; rfl)
    | cases h
theorem l_inB (neg : Bool) : Lift2 K (fun x y H Q => rIn K neg x y H Q ∨ (if neg then rNotInD K x y H Q else rInD K x y H Q) ∨ ∃ (c : Nat) (z : Str), x = .str ⟨#[c]⟩ ∧ y = .str z ∧ Q (.bl (neg != decide (c ∈ z.cps.toList))) H) (W.isIn neg) := fun N H x y v u k Q hN px py w z => by
  rcases w with ⟨ys, hy, fx, fy, q⟩ | ⟨ys, rfl, hx, hy, q⟩ | ⟨c, s, rfl, rfl, q⟩
  · left
    obtain ⟨w, hw⟩ := Option.isSome_iff_exists.mp fx
    obtain rfl := px.flat hw
    have seq : ∃ p vs, u = .ref p ∧ (SqL K H p vs ∨ SqT K H p vs) ∧ RepL K N H ys vs := by
      rcases hy with rfl | rfl
      · obtain ⟨a, vs, e, h1, h2⟩ := py.lst
        exact ⟨a, vs, e, .inl h1, h2⟩
      · obtain ⟨a, vs, e, h1, h2⟩ := py.tup
        exact ⟨a, vs, e, .inr h1, h2⟩
    obtain ⟨p, vs, e, h1, h2⟩ := seq
    obtain ⟨a1, a2⟩ := flat_repL fy h2
    refine ⟨p, vs, e, h1, flat_fl hw, a1, ?_⟩
    rw [a2 x v hw]
    have e3 : (if neg = true then !ys.any fun z => z.alike x else ys.any fun z => z.alike x) = (neg != ys.any fun z => z.alike x) := by cases neg <;> cases ys.any (fun z => z.alike x) <;> rfl
    rw [e3]
    exact z.here (d := .bl _) rfl q
  · right
    left
    have e : Dp K H u (.list (D.pyL ys)) := dpS_of hy.1 py
    cases neg with
    | true =>
      refine ⟨x.py, D.pyL ys, dpS_of hx.1 px, e, hx.shaped, hy.shaped, ?_⟩
      rw [py_any]
      have e2 : (true != ys.any fun z => PyData.eqv z.py x.py) = !ys.any fun z => PyData.eqv z.py x.py := by cases ys.any (fun z => PyData.eqv z.py x.py) <;> rfl
      rw [e2] at q
      exact z.here (d := .bl _) rfl q
    | false =>
      refine ⟨x.py, D.pyL ys, dpS_of hx.1 px, e, hx.shaped, hy.shaped, ?_⟩
      rw [py_any]
      have e2 : (false != ys.any fun z => PyData.eqv z.py x.py) = ys.any fun z => PyData.eqv z.py x.py := by cases ys.any (fun z => PyData.eqv z.py x.py) <;> rfl
      rw [e2] at q
      exact z.here (d := .bl _) rfl q
  · exact .inr (.inr ⟨c, s, px.str, py.str, z.here (d := .bl _) rfl q⟩)
theorem l_in : Lift2 K (rInW K) (W.isIn false) := fun N H x y v u k Q hN px py w z => by
  rcases l_inB false N H x y v u k Q hN px py w z with h | h | ⟨c, s, e1, e2, q⟩
  · exact .inl h
  · exact .inr (.inl h)
  · refine .inr (.inr ⟨c, s, e1, e2, ?_⟩)
    have e : (false != decide (c ∈ s.cps.toList)) = decide (c ∈ s.cps.toList) := by cases decide (c ∈ s.cps.toList) <;> rfl
    rw [e] at q
    exact q
theorem l_nin : Lift2 K (rNinW K) (W.isIn true) := fun N H x y v u k Q hN px py w z => by
  rcases l_inB true N H x y v u k Q hN px py w z with h | h | ⟨c, s, e1, e2, q⟩
  · exact .inl h
  · exact .inr (.inl h)
  · refine .inr (.inr ⟨c, s, e1, e2, ?_⟩)
    have e : (true != decide (c ∈ s.cps.toList)) = !decide (c ∈ s.cps.toList) := by cases decide (c ∈ s.cps.toList) <;> rfl
    rw [e] at q
    exact q
/-! ### places, parts -/
def W.ix : D → D → (D → Prop) → Prop
  | .lst xs, .int i, k => ∃ d, atI xs i = some d ∧ k d
  | .tup xs, .int i, k => ∃ d, atI xs i = some d ∧ k d
  | .str s, .int i, k => s.length ≤ sizeLine ∧ ∃ c, atI s.cps.toList i = some c ∧ k (.str ⟨#[c]⟩)
  | _, _, _ => False
theorem at_rep {N : No} {H : Hp} {xs : List D} {vs : List V} {i : Int} {d : D} (h2 : RepL K N H xs vs) (e : atI xs i = some d) : ∃ w, atI vs i = some w ∧ Rep K N H d w := by
  obtain ⟨j, e1, e2, _⟩ := atI_get e
  obtain ⟨w, e3, e4⟩ := h2.get e2
  refine ⟨w, ?_, e4⟩
  unfold atI at e ⊢
  rw [← h2.length]
  cases e5 : ixN xs.length i with
  | none =>
    rw [e5] at e
    cases e
  | some m =>
    rw [e5] at e
    have e6 : xs[m]? = some d := e
    obtain ⟨e7, _⟩ := ixN_seq e5
    rw [e1] at e7
    cases e7
    exact e3
theorem l_ix : Lift2 K (rIx K) W.ix := fun N H x y v u k Q hN px py w z => by
  cases x <;> cases y <;> first
    | exact (show False from w).elim
    | skip
  case lst.int xs i =>
    obtain ⟨d, e, q⟩ := w
    obtain ⟨a, vs, rfl, h1, h2⟩ := px.lst
    obtain ⟨w, e1, e2⟩ := at_rep h2 e
    exact .inl ⟨a, vs, i, w, rfl, py.int, h1, e1, z.here e2 q⟩
  case tup.int xs i =>
    obtain ⟨d, e, q⟩ := w
    obtain ⟨a, vs, rfl, h1, h2⟩ := px.tup
    obtain ⟨w, e1, e2⟩ := at_rep h2 e
    exact .inr (.inl ⟨a, vs, i, w, rfl, py.int, h1, e1, z.here e2 q⟩)
  case str.int s i =>
    obtain ⟨hs, c, e, q⟩ := w
    exact .inr (.inr ⟨s, i, c, px.str, py.int, hs, e, z.here (d := .str _) rfl q⟩)
def W.sl : D → Option Int → Option Int → (D → Prop) → Prop
  | .lst xs, i, j, k => k (.lst (cutD xs i j))
  | .tup xs, i, j, k => k (.tup (cutD xs i j))
  | .str s, i, j, k => s.length ≤ sizeLine ∧ k (.str (cutS s i j))
  | _, _, _, _ => False
def rSlS2 : V → Option Int → Option Int → Hp → VK → Prop := fun x lo hi H Q => ∃ z, x = .str z ∧ z.length ≤ sizeLine ∧ Q (.str (cutS z lo hi)) H
def rSlW (K : PySem.W.Frag) : V → Option Int → Option Int → Hp → VK → Prop := fun x lo hi H Q => rSlL K x lo hi H Q ∨ rSlA K x lo hi H Q ∨ rSlS2 x lo hi H Q
theorem slr_or {r r' : V → Option Int → Option Int → Hp → VK → Prop} (h : L2.SlR X r) (h' : L2.SlR X r') : L2.SlR X (fun x i j H Q => r x i j H Q ∨ r' x i j H Q) := by
  intro pins s σ H x v vl vu lo hi sl Q I rx hs pl pu q
  rcases q with q | q
  · exact h pins s σ H x v vl vu lo hi sl Q I rx hs pl pu q
  · exact h' pins s σ H x v vl vu lo hi sl Q I rx hs pl pu q
theorem sl_W : L2.SlR X (rSlW X.K) := slr_or sl_list (slr_or sl_tupA sl_str)
theorem l_sl (N : No) (H : Hp) (x : D) (v : V) (i j : Option Int) (k : D → Prop) (Q : VK) (hN : ∀ a, N a → H a ≠ none) (px : RepS K N H x v) (w : W.sl x i j k) (z : Post K N H k Q) : rSlW K v i j H Q := by
  cases x <;> first
    | exact (show False from w).elim
    | skip
  case str s => exact .inr (.inr ⟨s, px.str, w.1, z.here (d := .str _) rfl w.2⟩)
  case lst xs =>
    obtain ⟨a, vs, rfl, h1, h2⟩ := px.lst
    exact .inl ⟨a, vs, rfl, h1, fun p hp => z.newL hN hp (cut_rep h2 i j) w⟩
  case tup xs =>
    have pa := px.rep fun _ e => nomatch e
    obtain ⟨a, vs, rfl, h1, h2⟩ := px.tup
    refine .inr (.inl ⟨a, vs, rfl, h1, fun ⟨e1, e2⟩ => ?_, fun _ p hp => z.newT hN hp (cut_rep h2 i j) w⟩)
    have e3 : cutD xs i j = xs := by
      unfold cutD
      rw [h2.length, e1, e2, List.drop_zero, Nat.sub_zero, ← h2.length, List.take_length]
    have w' : k (.tup (cutD xs i j)) := w
    rw [e3] at w'
    exact z.here pa w'
/-- xs[::-1] of a list -/
def W.rev : D → (D → Prop) → Prop
  | .lst xs, k => k (.lst xs.reverse)
  | _, _ => False
end
end Dw

/-! Wp3: comprehensions, loops, calls over trees. -/
namespace Dw
open PySem PySem.Spec PyProof.Rows L2
section
variable {M : Md} {O : List Addr} {r : List Sl} {wi : TI} {g : TG} {tt : TT} {te : TE} {vs js : List Nat} {k : D → Prop}
/-- .. over an own list -/
theorem de_lcMu (hjs : ∀ j ∈ js, j ∈ vs) {i0 : Nat} {p0 : Addr} {xs : List D} (hi0 : r[i0]? = some (.mu p0 xs)) (hwi : wi = iSeq M.K (tVar i0)) (h : xs.length < sizeLine ∧ ∃ R : Nat → List D → Prop, R 0 [] ∧
    (∀ (O' : List Addr) (i : Nat) (x : D) (ys : List D), xs[i]? = some x → R i ys → DG M g js O' (wipeR r vs) x fun r2 => DT M tt O' r2 fun b => if b = true then De M te O' r2 fun y => R (i + 1) (ys ++ [y]) else R (i + 1) ys) ∧
    ∀ ys, R xs.length ys → k (.lst ys)) : De M (tLc wi g tt te vs) O r k := fun σ H Q R0 z => by
  subst hwi
  obtain ⟨hz, R, r0, turn, fin⟩ := h
  have R1 := R0
  have e1 : Sm M.F0 H H := .refl
  have at0 : ∀ {O' : List Addr} {H' : Hp}, Rp M O' r σ H' → ∃ vs, H' p0 = some (.lst vs) ∧ RepL M.K (nf M O') H' xs vs := fun R' => (R'.slot i0 _ hi0).2.2
  obtain ⟨s0, _⟩ := R0.slot i0 _ hi0
  obtain ⟨vs0, a1, _⟩ := at0 R0
  refine ⟨.ref p0, s0, p0, rfl, .inl ⟨⟨vs0, .inl (.inl a1)⟩, ?_⟩⟩
  intro Dl hD
  refine ⟨fun i m H2 => m = xs.length - i ∧ i ≤ xs.length ∧ ∃ ys acc, R i ys ∧ ys.length ≤ i ∧ H2 Dl = some (.lst acc) ∧ RepL M.K (nf M (Dl :: O)) H2 ys acc ∧ Rp M (Dl :: O) r σ H2 ∧ Sm M.F0 H H2,
    ⟨xs.length, by simp, Nat.zero_le _, [], [], r0, Nat.le_refl _, upd_same, .nil, R1.own1 hD, sm_0 (sm_new hD)⟩, ?_⟩
  rintro i m H2 ⟨hm, hi, ys, acc, hR, hy, hd, pa, R2, e2⟩
  subst hm
  by_cases hlt : i < xs.length
  · obtain ⟨us, b1, b2⟩ := at0 R2
    refine .inr ⟨⟨us, us[i]'(by rw [← b2.length]; exact hlt), .inl (.inl b1), List.getElem?_eq_getElem _⟩, _, fun H' p => ⟨xs.length - (i + 1), by omega, rfl, hlt, p⟩, fun x H3 y => ?_⟩
    have yy : Sm (fun _ => False) H2 H3 ∧ Rep M.K (nf M (Dl :: O)) H3 xs[i] x := by
      obtain ⟨e0, y⟩ := y
      obtain ⟨w0, y1, p3⟩ := b2.get (List.getElem?_eq_getElem hlt)
      have y2 := y us (.inl (.inl b1))
      rw [y1] at y2
      cases y2
      rw [e0]
      exact ⟨.refl, p3⟩
    obtain ⟨s3, p3⟩ := yy
    have R3 := R2.grow s3
    refine turn (Dl :: O) i _ ys (List.getElem?_eq_getElem hlt) hR x _ H3 _ (R3.wipe vs) p3 fun σ4 r4 R4 w4 q4 => ⟨?_, ?_⟩
    · rw [w4 vs hjs, wipe_wipe fun _ h => h]
    · refine q4 σ4 H3 _ R4 fun b H5 R5 e5 q5 => ?_
      have e35 : Sm M.F0 H2 H5 := (sm_0 s3).trans e5
      cases b with
      | false =>
        rw [if_neg Bool.false_ne_true] at q5 ⊢
        have R5' := R2.step e35 R5.inv
        have nD : ¬ M.F0 Dl := fun z => M.tr Dl (M.f0 Dl z) (R2.own Dl (by simp)).1
        exact ⟨ys, acc, q5, by omega, e35 Dl _ nD hd, pa.step e35, R5', e2.trans e35⟩
      | true =>
        rw [if_pos rfl] at q5 ⊢
        refine q5 σ4 H5 _ R5 fun v H6 d R6 e6 p6 q6 => ?_
        have e26 : Sm M.F0 H2 H6 := e35.trans e6
        have nD : ¬ M.F0 Dl := fun z => M.tr Dl (M.f0 Dl z) (R2.own Dl (by simp)).1
        have hd6 := e26 Dl _ nD hd
        have pa6 := pa.step e26
        refine ⟨acc, hd6, by rw [← pa.length]; omega, ys ++ [d], acc ++ [v], q6, by simp; omega, upd_same, ?_, ?_, ?_⟩
        · have e : Sm (nf M (Dl :: O)) H6 (upd H6 Dl (.lst (acc ++ [v]))) := fun a o n e => by
            rw [upd_ne fun z => n (.inr (by rw [z]; simp))]
            exact e
          exact (pa6.append (.one p6)).mono e
        · -- the own list is in no slot
          have R6' := R2.step e26 R6.inv
          have fp : M.H0 Dl = none := (R2.own Dl (by simp)).1
          have nin : ∀ (j : Nat) (zs : List D), r[j]? ≠ some (.mu Dl zs) := fun j zs e => (R1.own Dl (R1.slot j _ e).2.1).2 hD
          have e : Sm (nf M (Dl :: O)) H6 (upd H6 Dl (.lst (acc ++ [v]))) := fun a o n e => by
            rw [upd_ne fun z => n (.inr (by rw [z]; simp))]
            exact e
          refine ⟨fun a o n e => ?_, M.st H6 _ R6'.inv fun a o f e => ?_, fun a ha => ⟨(R6'.own a ha).1, ?_⟩, R6'.nod, R6'.len, fun j t ht => ?_, R6'.one⟩
          · rw [upd_ne (ne_of_none e fp)]
            exact R6'.sm a o n e
          · rw [upd_ne fun z => M.tr a (M.f0 a f) (by rw [z]; exact fp)]
            exact e
          · by_cases q : a = Dl
            · rw [q, upd_same]
              exact fun z => nomatch z
            · rw [upd_ne q]
              exact (R6'.own a ha).2
          · have h1 := R6'.slot j t ht
            cases t with
            | un => trivial
            | d x =>
              obtain ⟨u, e2, h2⟩ := h1
              exact ⟨u, e2, h2.mono e⟩
            | mu l zs =>
              obtain ⟨e2, hl, us, h2, h3⟩ := h1
              refine ⟨e2, hl, us, ?_, h3.mono e⟩
              rw [upd_ne fun z => nin j zs (by rw [← z]; exact ht)]
              exact h2
        · exact fun a o n e => by
            have ea := e2.trans e26 a o n e
            rw [upd_ne (ne_of_none e hD)]
            exact ea
  · have e : i = xs.length := by omega
    subst e
    obtain ⟨us, b1, b2⟩ := at0 R2
    refine .inl ⟨⟨us, .inl (.inl b1), by rw [← b2.length]; exact Nat.le_refl _⟩, ?_⟩
    have w : ∀ a, nf M O a → nf M (Dl :: O) a := fun a ha => ha.imp id (List.mem_cons_of_mem _)
    refine z (.ref Dl) H2 (.lst ys) (R1.step e2 R2.inv) (e1.trans e2) ⟨Dl, acc, rfl, .inl ⟨new_no R1 hD, .inl hd⟩, pa.less w⟩ (fin ys hR)
/-- the items that a comprehension makes: body gives each turn's item, or none -/
def W.comp (body : D → (Option D → Prop) → Prop) : List D → List D → (D → Prop) → Prop
  | [], acc, k => k (.lst acc)
  | x :: xs, acc, k => body x fun o => W.comp body xs (acc ++ o.toList) k
theorem ite_split {b : Bool} {p q P Q : Prop} (h : W.ite b p q) (hp : p → P) (hq : q → Q) : if b = true then P else Q := by
  cases b with
  | true => exact hp (h.1 rfl)
  | false => exact hq (h.2 rfl)
theorem comp_turns {body : D → (Option D → Prop) → Prop} {xs : List D} {k : D → Prop} (h : xs.length < sizeLine ∧ W.comp body xs [] k)
    (step : ∀ (O' : List Addr) (x : D) (q : Option D → Prop), body x q → DG M g js O' (wipeR r vs) x fun r2 => DT M tt O' r2 fun b => if b = true then De M te O' r2 fun y => q (some y) else q none) :
    xs.length < sizeLine ∧ ∃ R : Nat → List D → Prop, R 0 [] ∧
    (∀ (O' : List Addr) (i : Nat) (x : D) (ys : List D), xs[i]? = some x → R i ys → DG M g js O' (wipeR r vs) x fun r2 => DT M tt O' r2 fun b => if b = true then De M te O' r2 fun y => R (i + 1) (ys ++ [y]) else R (i + 1) ys) ∧
    ∀ ys, R xs.length ys → k (.lst ys) := by
  refine ⟨h.1, fun i ys => W.comp body (xs.drop i) ys k, h.2, fun O' i x ys hx hb => ?_, fun ys q => ?_⟩
  · have e : xs.drop i = x :: xs.drop (i + 1) := by
      have hi := (List.getElem?_eq_some_iff.mp hx).1
      rw [List.drop_eq_getElem_cons hi]
      rw [List.getElem?_eq_getElem hi] at hx
      cases hx
      rfl
    have hb : W.comp body (xs.drop i) ys k := hb
    rw [e] at hb
    have hb : body x fun o => W.comp body (xs.drop (i + 1)) (ys ++ o.toList) k := hb
    refine fun v σ H Q R pv z => step O' x _ hb v σ H Q R pv fun σ' r' R' w' q => z σ' r' R' w' (q.imp fun b hb => ?_)
    cases b with
    | true =>
      rw [if_pos rfl] at hb ⊢
      exact hb
    | false =>
      rw [if_neg Bool.false_ne_true] at hb ⊢
      have hb : W.comp body (xs.drop (i + 1)) (ys ++ []) k := hb
      rw [List.append_nil] at hb
      exact hb
  · have q : W.comp body (xs.drop xs.length) ys k := q
    rw [List.drop_length] at q
    exact q
theorem e_comp (body : D → (Option D → Prop) → Prop) (hjs : ∀ j ∈ js, j ∈ vs) (h : DI M wi O r fun xs => xs.length < sizeLine ∧ W.comp body xs [] k)
    (step : ∀ (O' : List Addr) (x : D) (q : Option D → Prop), body x q → DG M g js O' (wipeR r vs) x fun r2 => DT M tt O' r2 fun b => if b = true then De M te O' r2 fun y => q (some y) else q none) : De M (tLc wi g tt te vs) O r k :=
  de_lc hjs fun σ H Q R z => h σ H Q R fun J H1 xs Wx R1 e1 g1 q => z J H1 xs Wx R1 e1 g1 (comp_turns q step)
theorem e_compMu (body : D → (Option D → Prop) → Prop) (hjs : ∀ j ∈ js, j ∈ vs) {i0 : Nat} {p0 : Addr} {xs : List D} (hi0 : r[i0]? = some (.mu p0 xs)) (h : xs.length < sizeLine ∧ W.comp body xs [] k)
    (step : ∀ (O' : List Addr) (x : D) (q : Option D → Prop), body x q → DG M g js O' (wipeR r vs) x fun r2 => DT M tt O' r2 fun b => if b = true then De M te O' r2 fun y => q (some y) else q none) : De M (tLc (iSeq M.K (tVar i0)) g tt te vs) O r k :=
  de_lcMu hjs hi0 rfl (comp_turns h step)
end
/-! ### targets -/
def W.un2 : D → (D → D → Prop) → Prop
  | .tup [a, b], k => k a b
  | _, _ => False
def W.un3 : D → (D → D → D → Prop) → Prop
  | .tup [a, b, c], k => k a b c
  | _, _ => False
theorem un2_e {x : D} {k : D → D → Prop} (h : W.un2 x k) : ∃ a b, x = .tup [a, b] ∧ k a b := by
  unfold W.un2 at h
  split at h
  · exact ⟨_, _, rfl, h⟩
  · exact h.elim
theorem un3_e {x : D} {k : D → D → D → Prop} (h : W.un3 x k) : ∃ a b c, x = .tup [a, b, c] ∧ k a b c := by
  unfold W.un3 at h
  split at h
  · exact ⟨_, _, _, rfl, h⟩
  · exact h.elim
section
variable {M : Md} {O : List Addr} {r : List Sl} {k : List Sl → Prop}
theorem dg_un2 {i j : Nat} {x : D} {f : D → D → Prop} (h : W.un2 x f) (q : ∀ a b, f a b → k ((r.set i (.d a)).set j (.d b))) : DG M (gTup M.K 2 (gCons (gName i) (gCons (gName j) gNil))) [i, j] O r x k := by
  obtain ⟨a, b, rfl, f1⟩ := un2_e h
  exact dg_tup (js := [i, j]) rfl (dgs_cons (js := [i]) (ls := [j]) (dg_name (dgs_cons (js := [j]) (ls := []) (dg_name (dgs_nil (q a b f1))))))
theorem dg_un3 {i j l : Nat} {x : D} {f : D → D → D → Prop} (h : W.un3 x f) (q : ∀ a b c, f a b c → k (((r.set i (.d a)).set j (.d b)).set l (.d c))) : DG M (gTup M.K 3 (gCons (gName i) (gCons (gName j) (gCons (gName l) gNil)))) [i, j, l] O r x k := by
  obtain ⟨a, b, c, rfl, f1⟩ := un3_e h
  exact dg_tup (js := [i, j, l]) rfl (dgs_cons (js := [i]) (ls := [j, l]) (dg_name (dgs_cons (js := [j]) (ls := [l]) (dg_name (dgs_cons (js := [l]) (ls := []) (dg_name (dgs_nil (q a b c f1))))))))
end
/-! ### what is walked -/
def W.seq : D → (List D → Prop) → Prop
  | .lst xs, k => k xs
  | .tup xs, k => k xs
  | _, _ => False
theorem seq_e {x : D} {k : List D → Prop} (h : W.seq x k) : ∃ xs, (x = .lst xs ∨ x = .tup xs) ∧ k xs := by
  unfold W.seq at h
  split at h
  · exact ⟨_, .inl rfl, h⟩
  · exact ⟨_, .inr rfl, h⟩
  · exact h.elim
section
variable {M : Md} {O : List Addr} {r : List Sl} {kl : List D → Prop} {te : TE} {ta : TA}
theorem DI.imp {wi : TI} {k' : List D → Prop} (h : DI M wi O r kl) (i : ∀ d, kl d → k' d) : DI M wi O r k' := fun σ H Q R z => h σ H Q R fun J H1 xs W R1 e1 g1 q => z J H1 xs W R1 e1 g1 (i xs q)
theorem i_seq (h : De M te O r fun x => W.seq x kl) : DI M (iSeq M.K te) O r kl := di_seq (h.imp fun _ q => seq_e q)
def W.enum (x : D) (k : List D → Prop) : Prop := ∃ xs, x = .lst xs ∧ k (enumD xs)
theorem i_enum (h : De M te O r fun x => W.enum x kl) : DI M (iEnum M.K (tCons te tNil)) O r kl := di_enum (da_cons (h.imp fun x ⟨xs, e, q⟩ => da_nil ⟨xs, by rw [e], q⟩))
def W.range1 : D → (List D → Prop) → Prop
  | .int n, k => (-(2 ^ 62) ≤ n ∧ n < 2 ^ 62) ∧ k (rangeD 0 n.toNat)
  | _, _ => False
theorem range1_e {x : D} {k : List D → Prop} (h : W.range1 x k) : ∃ n : Int, x = .int n ∧ (-(2 ^ 62) ≤ n ∧ n < 2 ^ 62) ∧ k (rangeD 0 n.toNat) := by
  cases x <;> first
    | exact (show False from h).elim
    | exact ⟨_, rfl, h⟩
theorem i_range1 (h : De M te O r fun x => W.range1 x kl) : DI M (iRng1 (tCons te tNil)) O r kl := di_range1 (da_cons (h.imp fun x q => by
  obtain ⟨n, rfl, b, q⟩ := range1_e q
  exact da_nil ⟨n, rfl, b, q⟩))
def W.range2 : D → D → (List D → Prop) → Prop
  | .int m, .int n, k => (-(2 ^ 62) ≤ m ∧ m < 2 ^ 62 ∧ -(2 ^ 62) ≤ n ∧ n < 2 ^ 62) ∧ k (rangeD m (n - m).toNat)
  | _, _, _ => False
theorem i_range2 {tb : TE} (h : De M te O r fun x => De M tb O r fun y => W.range2 x y kl) : DI M (iRng2 (tCons te (tCons tb tNil))) O r kl := di_range2 (da_cons (h.imp fun x q => da_cons (q.imp fun y w => by
  cases x <;> first
    | exact (show False from w).elim
    | skip
  cases y <;> first
    | exact (show False from w).elim
    | skip
  exact da_nil ⟨_, _, rfl, w.1, w.2⟩)))
/-- zip of two lists -/
def zipD (xs ys : List D) : List D := xs.zipWith (fun x y => D.tup [x, y]) ys
def wk_zip (K : PySem.W.Frag) (a b : Addr) (xs ys : List D) : Wk K (Itz K a b) (zipD xs ys) where
  G := fun N H => ∃ vs ws, (LAt K N H a vs ∧ RepL K N H xs vs) ∧ LAt K N H b ws ∧ RepL K N H ys ws
  mono := fun N H H' e ⟨vs, ws, ⟨h1, h2⟩, h3, h4⟩ => ⟨vs, ws, ⟨h1.mono e, h2.mono e⟩, h3.mono e, h4.mono e⟩
  gen := fun N N' H e ⟨vs, ws, ⟨h1, h2⟩, h3, h4⟩ => ⟨vs, ws, ⟨h1.gen e, h2.gen e⟩, h3.gen e, h4.gen e⟩
  go := fun N H i ⟨vs, ws, ⟨h1, h2⟩, h3, h4⟩ hi => by
    have hi : i < min xs.length ys.length := by
      unfold zipD at hi
      rw [List.length_zipWith] at hi
      exact hi
    have l1 : i < vs.length := by rw [← h2.length]; omega
    have l2 : i < ws.length := by rw [← h4.length]; omega
    exact ⟨vs, ws, vs[i], ws[i], h1.sq, h3.sq, List.getElem?_eq_getElem _, List.getElem?_eq_getElem _⟩
  yld := fun N H i x H' d hN ⟨vs, ws, ⟨h1, h2⟩, h3, h4⟩ y hd => by
    obtain ⟨T, v, w, rfl, nT, rfl, y1, y2⟩ := y
    unfold zipD at hd
    rw [List.getElem?_zipWith] at hd
    split at hd
    case h_2 => cases hd
    rename_i a0 b0 ea eb
    cases hd
    obtain ⟨v', q2, q3⟩ := h2.get ea
    obtain ⟨w', q4, q5⟩ := h4.get eb
    have z1 := y1 vs h1.sq
    have z2 := y2 ws h3.sq
    rw [q2] at z1
    rw [q4] at z2
    cases z1
    cases z2
    exact ⟨sm_new nT, T, _, rfl, .inl ⟨fun z => hN T z nT, .inl upd_same⟩, .cons (q3.mono (sm_0 (sm_new nT))) (.one (q5.mono (sm_0 (sm_new nT))))⟩
  stop := fun N H i ⟨vs, ws, ⟨h1, h2⟩, h3, h4⟩ hi => by
    unfold zipD at hi
    rw [List.length_zipWith] at hi
    exact ⟨vs, ws, h1.sq, h3.sq, by rw [← h2.length, ← h4.length]; omega⟩
def W.zip : D → D → (List D → Prop) → Prop
  | .lst xs, .lst ys, k => k (zipD xs ys)
  | _, _, _ => False
theorem i_zip {tb : TE} (h : De M te O r fun x => De M tb O r fun y => W.zip x y kl) : DI M (iZip M.K (tCons te (tCons tb tNil))) O r kl := fun σ H Q R z => by
  refine h σ H _ R fun v H1 x R1 e1 p1 h1 => h1 σ H1 _ R1 fun u H2 y R2 e2 p2 w => ?_
  cases x <;> first
    | exact (show False from w).elim
    | skip
  cases y <;> first
    | exact (show False from w).elim
    | skip
  obtain ⟨a, vs, rfl, h1, h2⟩ := p1.step e2
  obtain ⟨b, ws, rfl, h3, h4⟩ := p2
  exact ⟨a, b, vs, ws, rfl, h1.sq, h3.sq, z _ H2 _ (wk_zip M.K a b _ _) R2 (e1.trans e2) ⟨vs, ws, ⟨h1, h2⟩, h3, h4⟩ w⟩
end
/-! ### loops -/
/-- for: body turns the state; nx goes on, bk leaves the loop -/
def W.forL {S : Type} (body : D → S → (S → Prop) → (S → Prop) → Prop) : List D → S → (S → Prop) → Prop
  | [], s, k => k s
  | x :: xs, s, k => body x s (fun s' => W.forL body xs s' k) k
section
variable {M : Md} {O : List Addr} {r : List Sl} {wi : TI} {g : TG} {tb ts tz : TS} {js : List Nat} {E : Kn}
/-- the slots tell the state -/
def stK {S : Type} (O : List Addr) (enc : S → List Sl → Prop) (p : S → Prop) : List Addr → List Sl → Prop := fun O' r' => O' = O ∧ ∃ s, enc s r' ∧ p s
theorem stK_mk {S : Type} {O : List Addr} {enc : S → List Sl → Prop} {p : S → Prop} {r' : List Sl} (s : S) (h : p s) (e : enc s r') : stK O enc p O r' := ⟨rfl, s, e, h⟩
theorem ds_nextK {S : Type} {enc : S → List Sl → Prop} {p : S → Prop} (hE : E.nx = stK O enc p) (s : S) (h : p s) (e : enc s r) : DS M tNext O r E := ds_next (by rw [hE]; exact ⟨rfl, s, e, h⟩)
theorem ds_breakK {S : Type} {enc : S → List Sl → Prop} {p : S → Prop} (hE : E.bk = stK O enc p) (s : S) (h : p s) (e : enc s r) : DS M tBreak O r E := ds_break (by rw [hE]; exact ⟨rfl, s, e, h⟩)
theorem ds_contK {S : Type} {enc : S → List Sl → Prop} {p : S → Prop} (hE : E.ct = stK O enc p) (s : S) (h : p s) (e : enc s r) : DS M tCont O r E := ds_cont (by rw [hE]; exact ⟨rfl, s, e, h⟩)
theorem ds_mid0 (Q : List Addr → List Sl → Prop) (h1 : DS M ts O r { E with nx := Q }) (h2 : ∀ O r, Q O r → DS M tz O r E) : DS M (tSeq ts tz) O r E := ds_seq (h1.imp h2 (fun _ h => h) (fun _ _ h => h) fun _ _ h => h)
theorem s_for {S : Type} (enc : S → List Sl → Prop) (body : D → S → (S → Prop) → (S → Prop) → Prop) (s0 : S) (p : S → Prop) (h : DI M wi O r fun xs => W.forL body xs s0 p) (h0 : enc s0 r)
    (turn : ∀ (x : D) (s : S) (r' : List Sl) (nx bk : S → Prop), enc s r' → body x s nx bk → DG M g js O r' x fun r2 => DS M tb O r2 { E with nx := stK O enc nx, ct := stK O enc nx, bk := stK O enc bk })
    (fin : ∀ (s : S) (r' : List Sl), enc s r' → p s → DS M tz O r' E) : DS M (tSeq (tFor wi g tb) tz) O r E :=
  ds_seq (ds_for (js := js) (fun σ H Q R z => h σ H Q R fun J H1 xs Wx R1 e1 g1 q => z J H1 xs Wx R1 e1 g1 ⟨fun i O' r' => O' = O ∧ ∃ s, enc s r' ∧ W.forL body (xs.drop i) s p, ⟨rfl, s0, h0, q⟩, fun i x O' r' hx ⟨eO, s, he, hb⟩ => by
    subst eO
    have hi := (List.getElem?_eq_some_iff.mp hx).1
    rw [List.drop_eq_getElem_cons hi] at hb
    rw [List.getElem?_eq_getElem hi] at hx
    cases hx
    have hb : body xs[i] s (fun s' => W.forL body (xs.drop (i + 1)) s' p) p := hb
    refine fun v σ H Q R pv z => turn _ s r' _ _ he hb v σ H Q R pv fun σ' r2 R' w' q => z σ' r2 R' w' (q.imp (fun O2 r3 q => q) (fun _ q => q) (fun O2 r3 ⟨eO2, s2, he2, hp2⟩ => ?_) fun O2 r3 q => q)
    subst eO2
    exact fin s2 r3 he2 hp2, fun O' r' ⟨eO, s, he, hb⟩ => by
    subst eO
    rw [List.drop_length] at hb
    exact fin s r' he hb⟩))
/-- while: n turns at most -/
def W.whileN {S : Type} (c : S → (Bool → Prop) → Prop) (body : S → (S → Prop) → (S → Prop) → Prop) (k : S → Prop) : Nat → S → Prop
  | 0, _ => False
  | n + 1, s => c s fun b => W.ite b (body s (fun s' => W.whileN c body k n s') k) (k s)
theorem s_while {S : Type} (enc : S → List Sl → Prop) (c : S → (Bool → Prop) → Prop) (body : S → (S → Prop) → (S → Prop) → Prop) (s0 : S) (p : S → Prop) {tc : TT} (h : ∃ n, W.whileN c body p n s0) (h0 : enc s0 r)
    (test : ∀ (s : S) (r' : List Sl) (q : Bool → Prop), enc s r' → c s q → DT M tc O r' q)
    (turn : ∀ (s : S) (r' : List Sl) (nx bk : S → Prop), enc s r' → body s nx bk → DS M tb O r' { E with nx := stK O enc nx, ct := stK O enc nx, bk := stK O enc bk })
    (fin : ∀ (s : S) (r' : List Sl), enc s r' → p s → DS M tz O r' E) : DS M (tSeq (tWhile tc tb) tz) O r E := by
  obtain ⟨n0, h⟩ := h
  refine ds_seq fun σ H Z R z => ?_
  refine ⟨fun n σ2 H2 => ∃ s r2, W.whileN c body p n s ∧ enc s r2 ∧ Rp M O r2 σ2 H2 ∧ Stp M O H O H2, ⟨n0, s0, r, h, h0, R, .refl⟩, ?_⟩
  rintro n σ2 H2 ⟨s, r2, hw, he, R2, s2⟩
  cases n with
  | zero => exact (show False from hw).elim
  | succ n =>
    have hw : c s fun b => W.ite b (body s (fun s' => W.whileN c body p n s') p) (p s) := hw
    refine test s r2 _ he hw σ2 H2 _ R2 fun b H3 R3 e3 q3 => ?_
    have s3 : Stp M O H O H3 := Stp.trans R2.inv s2 (R3.stp e3)
    cases b with
    | false => exact z.nx O r2 σ2 H3 R3 s3 (fin s r2 he (q3.2 rfl))
    | true =>
      refine ⟨fun σ5 H5 => ∃ s5 r5, W.whileN c body p n s5 ∧ enc s5 r5 ∧ Rp M O r5 σ5 H5 ∧ Stp M O H O H5, fun σ5 H5 ⟨s5, r5, a, b, d, f⟩ => ⟨n, Nat.lt_succ_self n, s5, r5, a, b, d, f⟩, ?_⟩
      refine turn s r2 _ _ he (q3.1 rfl) σ2 H3 _ R3 ⟨fun O5 r5 σ5 H5 R5 st5 ⟨eO, s5, he5, q5⟩ => ?_, fun v H5 d s1 i1 p1 q5 => z.rt v H5 d s1 i1 p1 q5, fun O5 r5 σ5 H5 R5 st5 ⟨eO, s5, he5, q5⟩ => ?_, fun O5 r5 σ5 H5 R5 st5 ⟨eO, s5, he5, q5⟩ => ?_⟩
      · subst eO
        exact ⟨s5, r5, q5, he5, R5, Stp.trans R3.inv s3 st5⟩
      · subst eO
        exact z.nx _ r5 σ5 H5 R5 (Stp.trans R3.inv s3 st5) (fin s5 r5 he5 q5)
      · subst eO
        exact ⟨s5, r5, q5, he5, R5, Stp.trans R3.inv s3 st5⟩
/-- ways that join behind an if -/
theorem s_if {S : Type} (enc : S → List Sl → Prop) {tt : TT} {m : (S → Prop) → Prop} {p : S → Prop} (h : W.join m p) (ways : m p → DT M tt O r fun b => if b = true then DS M ts O r { E with nx := stK O enc p } else DS M tb O r { E with nx := stK O enc p })
    (fin : ∀ (s : S) (r' : List Sl), enc s r' → p s → DS M tz O r' E) : DS M (tSeq (tIfS tt ts tb) tz) O r E :=
  ds_mid0 (stK O enc p) (ds_if (ways h)) fun O' r' ⟨eO, s, he, hp⟩ => by
    subst eO
    exact fin s r' he hp
/-- an if of which one way at most goes on -/
theorem s_ifR {tt : TT} (h : DT M tt O r fun b => if b = true then DS M ts O r { E with nx := fun O1 r1 => DS M tz O1 r1 E } else DS M tb O r { E with nx := fun O1 r1 => DS M tz O1 r1 E }) : DS M (tSeq (tIfS tt ts tb) tz) O r E := ds_seq (ds_if h)
end
/-! ### calls -/
/-- a promise by what is asked -/
def SpW (K : PySem.W.Frag) (S : Sg) (w : S.G → List D → (D → Prop) → Prop) : Sp := fun vs H Q _ =>
  ∃ (g : S.G) (ds : List D) (F : No) (k : D → Prop), RepL K F H ds vs ∧ (∀ a, S.F0 g a → F a) ∧ (∀ a, F a → H a ≠ none) ∧ S.I g H ∧ w g ds k ∧
    ∀ v H' d, Sm (S.F0 g) H H' → S.I g H' → Rep K F H' d v → k d → Q v H'
abbrev SpP0 (K : PySem.W.Frag) (w : List D → (D → Prop) → Prop) : Sp := SpW K pure0 fun _ => w
/-- a def that has the source of draws as its first argument -/
def dealW (w : List D → (D → Prop) → Prop) : Addr × Addr → List D → (D → Prop) → Prop := fun g ds k => ∃ r, ds = .ref g.1 :: r ∧ w r k
abbrev SpDl (K : PySem.W.Frag) (w : List D → (D → Prop) → Prop) : Sp := SpW K dealS (dealW w)
def W.a0 (w : (D → Prop) → Prop) : List D → (D → Prop) → Prop
  | [], k => w k
  | _, _ => False
def W.a1 (w : D → (D → Prop) → Prop) : List D → (D → Prop) → Prop
  | [a], k => w a k
  | _, _ => False
def W.a2 (w : D → D → (D → Prop) → Prop) : List D → (D → Prop) → Prop
  | [a, b], k => w a b k
  | _, _ => False
def W.a3 (w : D → D → D → (D → Prop) → Prop) : List D → (D → Prop) → Prop
  | [a, b, c], k => w a b c k
  | _, _ => False
def W.a4 (w : D → D → D → D → (D → Prop) → Prop) : List D → (D → Prop) → Prop
  | [a, b, c, d], k => w a b c d k
  | _, _ => False
theorem a0_e {w : (D → Prop) → Prop} {ds : List D} {k : D → Prop} (h : W.a0 w ds k) : ds = [] ∧ w k := by
  unfold W.a0 at h
  split at h
  · exact ⟨rfl, h⟩
  · exact h.elim
theorem a1_e {w : D → (D → Prop) → Prop} {ds : List D} {k : D → Prop} (h : W.a1 w ds k) : ∃ a, ds = [a] ∧ w a k := by
  unfold W.a1 at h
  split at h
  · exact ⟨_, rfl, h⟩
  · exact h.elim
theorem a2_e {w : D → D → (D → Prop) → Prop} {ds : List D} {k : D → Prop} (h : W.a2 w ds k) : ∃ a b, ds = [a, b] ∧ w a b k := by
  unfold W.a2 at h
  split at h
  · exact ⟨_, _, rfl, h⟩
  · exact h.elim
theorem a3_e {w : D → D → D → (D → Prop) → Prop} {ds : List D} {k : D → Prop} (h : W.a3 w ds k) : ∃ a b c, ds = [a, b, c] ∧ w a b c k := by
  unfold W.a3 at h
  split at h
  · exact ⟨_, _, _, rfl, h⟩
  · exact h.elim
theorem a4_e {w : D → D → D → D → (D → Prop) → Prop} {ds : List D} {k : D → Prop} (h : W.a4 w ds k) : ∃ a b c d, ds = [a, b, c, d] ∧ w a b c d k := by
  unfold W.a4 at h
  split at h
  · exact ⟨_, _, _, _, rfl, h⟩
  · exact h.elim
section
variable {M : Md} {O : List Addr} {r : List Sl} {k : D → Prop} {tl : TA} {Ex : XK}
theorem e_callW {S : Sg} {w : S.G → List D → (D → Prop) → Prop} (g : S.G) (h0 : M.F0 = S.F0 g) (hI : M.I = S.I g) (h : DA M tl O r fun ds => w g ds k) : De M (tCall (SpW M.K S w) [] Ex tl) O r k := fun σ H Q R z => by
  refine h σ H _ R fun vs H1 ds R1 e1 p1 q => ?_
  rw [List.append_nil]
  refine ⟨g, ds, nf M O, k, p1, fun a x => .inl (M.f0 a (by rw [h0]; exact x)), nf_tr R1, by rw [← hI]; exact R1.inv, q, fun v H2 d s i p po => ?_⟩
  have s' : Sm M.F0 H1 H2 := by rw [h0]; exact s
  exact z v H2 d (R1.step s' (by rw [hI]; exact i)) (e1.trans s') p po
theorem e_callP {w : List D → (D → Prop) → Prop} (h : DA M tl O r fun ds => w ds k) : De M (tCall (SpP0 M.K w) [] Ex tl) O r k := fun σ H Q R z => by
  refine h σ H _ R fun vs H1 ds R1 e1 p1 q => ?_
  rw [List.append_nil]
  exact ⟨(), ds, nf M O, k, p1, fun a x => x.elim, nf_tr R1, trivial, q, fun v H2 d s i p po => z v H2 d (R1.grow s) (e1.trans (sm_0 s)) p po⟩
theorem e_callD {w : List D → (D → Prop) → Prop} (g : Addr × Addr) (h0 : M.F0 = dealS.F0 g) (hI : M.I = dealS.I g) {i : Nat} (hi : r[i]? = some (.d (.ref g.1))) (h : DA M tl O r fun ds => w ds k) : De M (tCall (SpDl M.K w) [] Ex (tCons (tVar i) tl)) O r k :=
  e_callW (S := dealS) g h0 hI (da_cons (de_var hi (h.imp fun ds q => ⟨ds, rfl, q⟩)))
variable {t1 t2 t3 t4 : TE}
theorem e_callP0 {w : (D → Prop) → Prop} (h : w k) : De M (tCall (SpP0 M.K (W.a0 w)) [] Ex tNil) O r k := e_callP (da_nil h)
theorem e_callP1 {w : D → (D → Prop) → Prop} (h : De M t1 O r fun a => w a k) : De M (tCall (SpP0 M.K (W.a1 w)) [] Ex (tCons t1 tNil)) O r k := e_callP (da_cons (h.imp fun a h => da_nil h))
theorem e_callP2 {w : D → D → (D → Prop) → Prop} (h : De M t1 O r fun a => De M t2 O r fun b => w a b k) : De M (tCall (SpP0 M.K (W.a2 w)) [] Ex (tCons t1 (tCons t2 tNil))) O r k := e_callP (da_cons (h.imp fun a h => da_cons (h.imp fun b h => da_nil h)))
theorem e_callP3 {w : D → D → D → (D → Prop) → Prop} (h : De M t1 O r fun a => De M t2 O r fun b => De M t3 O r fun c => w a b c k) : De M (tCall (SpP0 M.K (W.a3 w)) [] Ex (tCons t1 (tCons t2 (tCons t3 tNil)))) O r k := e_callP (da_cons (h.imp fun a h => da_cons (h.imp fun b h => da_cons (h.imp fun c h => da_nil h))))
theorem e_callP4 {w : D → D → D → D → (D → Prop) → Prop} (h : De M t1 O r fun a => De M t2 O r fun b => De M t3 O r fun c => De M t4 O r fun d => w a b c d k) : De M (tCall (SpP0 M.K (W.a4 w)) [] Ex (tCons t1 (tCons t2 (tCons t3 (tCons t4 tNil))))) O r k := e_callP (da_cons (h.imp fun a h => da_cons (h.imp fun b h => da_cons (h.imp fun c h => da_cons (h.imp fun d h => da_nil h)))))
section
variable {i : Nat} (g : Addr × Addr) (h0 : M.F0 = dealS.F0 g) (hI : M.I = dealS.I g) (hi : r[i]? = some (.d (.ref g.1)))
include h0 hI hi
theorem e_callD0 {w : (D → Prop) → Prop} (h : w k) : De M (tCall (SpDl M.K (W.a0 w)) [] Ex (tCons (tVar i) tNil)) O r k := e_callD g h0 hI hi (da_nil h)
theorem e_callD1 {w : D → (D → Prop) → Prop} (h : De M t1 O r fun a => w a k) : De M (tCall (SpDl M.K (W.a1 w)) [] Ex (tCons (tVar i) (tCons t1 tNil))) O r k := e_callD g h0 hI hi (da_cons (h.imp fun a h => da_nil h))
theorem e_callD2 {w : D → D → (D → Prop) → Prop} (h : De M t1 O r fun a => De M t2 O r fun b => w a b k) : De M (tCall (SpDl M.K (W.a2 w)) [] Ex (tCons (tVar i) (tCons t1 (tCons t2 tNil)))) O r k := e_callD g h0 hI hi (da_cons (h.imp fun a h => da_cons (h.imp fun b h => da_nil h)))
theorem e_callD3 {w : D → D → D → (D → Prop) → Prop} (h : De M t1 O r fun a => De M t2 O r fun b => De M t3 O r fun c => w a b c k) : De M (tCall (SpDl M.K (W.a3 w)) [] Ex (tCons (tVar i) (tCons t1 (tCons t2 (tCons t3 tNil))))) O r k := e_callD g h0 hI hi (da_cons (h.imp fun a h => da_cons (h.imp fun b h => da_cons (h.imp fun c h => da_nil h))))
end
end
section
variable {P : Program} {w : World} {K : PySem.W.Frag} {mg : Str → Option Value} {base : Heap}
/-- a def by its body -/
theorem fn_w {x qual : Str} {st : Stmt} {f : Addr} {fd : FuncData} {N ps : List Str} {k : Nat} {S : Sg} {W : S.G → List D → (D → Prop) → Prop} (F : Fun K x qual st f fd) (T : FnScope N ps (defScope st))
    (len : ∀ g ds k, W g ds k → ds.length = ps.length)
    (body : ∀ (cdv : Value) (A : Around) (outer : List Env) (s : Shared) (H : Hp) (E : XK) (g : S.G) (ds : List D) (kr : D → Prop) (F1 : No) (f0 : ∀ a, S.F0 g a → F1 a) (tr : ∀ a, F1 a → H a ≠ none), Room k (A.deeper (envOfC qual (defScope st) s.heap.objs.size f cdv)) → W g ds kr →
      ∃ t, PSs (cxOf CX0 P w K mg base N qual (defScope st) f cdv A outer s H E).nox (defBody st) t ∧ DS (mdOf K S g H F1 f0 tr) t [] (startR N.length ds) { nx := fun _ _ => kr .non, rt := kr }) : FnOk P w K mg base CX0 (k + 1) f fd ps (SpW K S W) := by
  refine F.ok T (fun vs H Q E h => ?_) (fun cdv A outer s H vs Q E hr h => ?_)
  · obtain ⟨g, ds, F1, kr, p, _, _, _, q, _⟩ := h
    rw [← p.length, len g ds kr q]
  · obtain ⟨g, ds, F1, kr, p, f0, tr, i, q, z⟩ := h
    obtain ⟨t, ht, hd⟩ := body cdv A outer s H E g ds kr F1 f0 tr hr q
    refine ⟨t, ht, hd _ H _ (start_rp (M := mdOf K S g H F1 f0 tr) p i) ⟨fun O r σ H1 R a q => z .non H1 .non R.sm R.inv rfl q, fun v H1 d s1 i1 p1 q => z v H1 d s1 i1 p1 q, fun _ _ _ _ _ _ q => q.elim, fun _ _ _ _ _ _ q => q.elim⟩⟩
theorem fng_w {x qual : Str} {st : Stmt} {f : Addr} {fd : FuncData} {N ps : List Str} {k : Nat} {S : Sg} {W : S.G → List D → (D → Prop) → Prop} (F : Fun K x qual st f fd) (T : FnScope N ps (defScope st))
    (len : ∀ g ds k, W g ds k → ds.length = ps.length)
    (body : ∀ (cdv : Value) (A : Around) (outer : List Env) (s : Shared) (H : Hp) (E : XK) (g : S.G) (ds : List D) (kr : D → Prop) (F1 : No) (f0 : ∀ a, S.F0 g a → F1 a) (tr : ∀ a, F1 a → H a ≠ none), A.guards = some [] → Room k (A.deeper (envOfC qual (defScope st) s.heap.objs.size f cdv)) → W g ds kr →
      ∃ t, PSs (cxOf CX0 P w K mg base N qual (defScope st) f cdv A outer s H E).nox (defBody st) t ∧ DS (mdOf K S g H F1 f0 tr) t [] (startR N.length ds) { nx := fun _ _ => kr .non, rt := kr }) : FnG P w K mg base (k + 1) f fd ps (SpW K S W) := by
  refine fng_of F T (fun vs H Q E h => ?_) (fun cdv A outer s H vs Q E hg hr h => ?_)
  · obtain ⟨g, ds, F1, kr, p, _, _, _, q, _⟩ := h
    rw [← p.length, len g ds kr q]
  · obtain ⟨g, ds, F1, kr, p, f0, tr, i, q, z⟩ := h
    obtain ⟨t, ht, hd⟩ := body cdv A outer s H E g ds kr F1 f0 tr hg hr q
    refine ⟨t, ht, hd _ H _ (start_rp (M := mdOf K S g H F1 f0 tr) p i) ⟨fun O r σ H1 R a q => z .non H1 .non R.sm R.inv rfl q, fun v H1 d s1 i1 p1 q => z v H1 d s1 i1 p1 q, fun _ _ _ _ _ _ q => q.elim, fun _ _ _ _ _ _ q => q.elim⟩⟩
end
end Dw

/-! Wp4: built-ins over trees. -/
namespace Dw
open PySem PySem.Spec PyProof.Rows L2
section
variable {X : Cx} {K : PySem.W.Frag}
theorem RepSL.one {N : No} {H : Hp} {x : D} {vs : List V} (h : RepSL K N H [x] vs) : ∃ v, vs = [v] ∧ RepS K N H x v := by
  obtain ⟨v, r, e, h1, h2⟩ := h
  obtain rfl := (show r = [] from h2)
  exact ⟨v, e, h1⟩
theorem RepSL.two {N : No} {H : Hp} {x y : D} {vs : List V} (h : RepSL K N H [x, y] vs) : ∃ v u, vs = [v, u] ∧ RepS K N H x v ∧ RepS K N H y u := by
  obtain ⟨v, r, rfl, h1, h2⟩ := h
  obtain ⟨u, rfl, h3⟩ := RepSL.one h2
  exact ⟨v, u, rfl, h1, h3⟩
theorem RepS.seq {N : No} {H : Hp} {x : D} {xs : List D} {v : V} (c : x = .lst xs ∨ x = .tup xs) (h : RepS K N H x v) : ∃ a vs, v = .ref a ∧ (SqL K H a vs ∨ SqT K H a vs) ∧ RepL K N H xs vs := by
  rcases c with rfl | rfl
  · obtain ⟨a, vs, e, h1, h2⟩ := h.lst
    exact ⟨a, vs, e, .inl h1, h2⟩
  · obtain ⟨a, vs, e, h1, h2⟩ := h.tup
    exact ⟨a, vs, e, .inr h1, h2⟩
/-! ### len -/
def W.len : List D → (D → Prop) → Prop
  | [.lst xs], k => k (.int xs.length)
  | [.tup xs], k => k (.int xs.length)
  | [.str s], k => s.length ≤ sizeLine ∧ k (.int s.length)
  | _, _ => False
def rLenW (K : PySem.W.Frag) : List V → Hp → VK → Prop := fun xs H Q => (∃ p ys, xs = [.ref p] ∧ (SqL K H p ys ∨ SqT K H p ys) ∧ Q (.int ys.length) H) ∨ ∃ z, xs = [.str z] ∧ z.length ≤ sizeLine ∧ Q (.int z.length) H
theorem call_lenW : CallR X (.builtin "len") (rLenW X.K) := CallR.or call_len_seq call_len_str
theorem l_len : LiftL K (rLenW K) W.len := fun N H ds vs k Q hN p w z => by
  unfold W.len at w
  split at w
  · obtain ⟨v, rfl, h⟩ := p.one
    obtain ⟨a, vs, rfl, h1, h2⟩ := h.lst
    exact .inl ⟨a, vs, rfl, .inl h1, by rw [← h2.length]; exact z.here (d := .int _) rfl w⟩
  · obtain ⟨v, rfl, h⟩ := p.one
    obtain ⟨a, vs, rfl, h1, h2⟩ := h.tup
    exact .inl ⟨a, vs, rfl, .inr h1, by rw [← h2.length]; exact z.here (d := .int _) rfl w⟩
  · obtain ⟨v, rfl, h⟩ := p.one
    obtain rfl := h.str
    exact .inr ⟨_, rfl, w.1, z.here (d := .int _) rfl w.2⟩
  · exact w.elim
/-! ### sum, any, all of a list -/
def W.sum (ds : List D) (k : D → Prop) : Prop := ∃ ns : List Int, ds = [.lst (ns.map D.int)] ∧ k (.int ns.sum)
theorem l_sum : LiftL K (rSum K) W.sum := fun N H ds vs k Q hN p w z => by
  obtain ⟨ns, rfl, q⟩ := w
  obtain ⟨v, rfl, h⟩ := p.one
  obtain ⟨a, vs, rfl, h1, h2⟩ := h.lst
  rw [repL_ints h2] at h1
  exact ⟨a, ns, rfl, h1, z.here (d := .int _) rfl q⟩
def W.any (ds : List D) (k : D → Prop) : Prop := ∃ bs : List Bool, ds = [.lst (bs.map D.bl)] ∧ k (.bl (bs.any id))
theorem l_any : LiftL K (rAny K) W.any := fun N H ds vs k Q hN p w z => by
  obtain ⟨ns, rfl, q⟩ := w
  obtain ⟨v, rfl, h⟩ := p.one
  obtain ⟨a, vs, rfl, h1, h2⟩ := h.lst
  rw [repL_bls h2] at h1
  exact ⟨a, ns, rfl, h1, z.here (d := .bl _) rfl q⟩
def W.all (ds : List D) (k : D → Prop) : Prop := ∃ bs : List Bool, ds = [.lst (bs.map D.bl)] ∧ k (.bl (bs.all id))
theorem l_all : LiftL K (rAll K) W.all := fun N H ds vs k Q hN p w z => by
  obtain ⟨ns, rfl, q⟩ := w
  obtain ⟨v, rfl, h⟩ := p.one
  obtain ⟨a, vs, rfl, h1, h2⟩ := h.lst
  rw [repL_bls h2] at h1
  exact ⟨a, ns, rfl, h1, z.here (d := .bl _) rfl q⟩
/-! ### max, min of two -/
def W.max2 : List D → (D → Prop) → Prop
  | [.int i, .int j], k => k (.int (if j > i then j else i))
  | _, _ => False
theorem l_max2 : LiftL K (fun xs H Q => ∃ i j, xs = [V.int i, V.int j] ∧ Q (.int (if j > i then j else i)) H) W.max2 := fun N H ds vs k Q hN p w z => by
  unfold W.max2 at w
  split at w
  · obtain ⟨v, u, rfl, h1, h2⟩ := p.two
    obtain rfl := h1.int
    obtain rfl := h2.int
    exact ⟨_, _, rfl, z.here (d := .int _) rfl w⟩
  · exact w.elim
def W.min2 : List D → (D → Prop) → Prop
  | [.int i, .int j], k => k (.int (if j < i then j else i))
  | _, _ => False
theorem l_min2 : LiftL K (fun xs H Q => ∃ i j, xs = [V.int i, V.int j] ∧ Q (.int (if j < i then j else i)) H) W.min2 := fun N H ds vs k Q hN p w z => by
  unfold W.min2 at w
  split at w
  · obtain ⟨v, u, rfl, h1, h2⟩ := p.two
    obtain rfl := h1.int
    obtain rfl := h2.int
    exact ⟨_, _, rfl, z.here (d := .int _) rfl w⟩
  · exact w.elim
/-! ### list, tuple -/
def W.listOf : List D → (D → Prop) → Prop
  | [.lst xs], k => k (.lst xs)
  | [.tup xs], k => k (.lst xs)
  | _, _ => False
theorem l_listOf : LiftL K (fun xs H Q => ∃ p ys, xs = [.ref p] ∧ (SqL K H p ys ∨ SqT K H p ys) ∧ ∀ l, H l = none → Q (.ref l) (upd H l (.lst ys))) W.listOf := fun N H ds vs k Q hN p w z => by
  unfold W.listOf at w
  split at w
  · obtain ⟨v, rfl, h⟩ := p.one
    obtain ⟨a, vs, rfl, h1, h2⟩ := h.lst
    exact ⟨a, vs, rfl, .inl h1, fun l hl => z.newL hN hl h2 w⟩
  · obtain ⟨v, rfl, h⟩ := p.one
    obtain ⟨a, vs, rfl, h1, h2⟩ := h.tup
    exact ⟨a, vs, rfl, .inr h1, fun l hl => z.newL hN hl h2 w⟩
  · exact w.elim
def W.tupleOf : List D → (D → Prop) → Prop
  | [.lst xs], k => k (.tup xs)
  | [.tup xs], k => k (.tup xs)
  | _, _ => False
theorem l_tupleOf : LiftL K (fun xs H Q => ∃ p ys, xs = [.ref p] ∧ ((SqL K H p ys ∧ ∀ l, H l = none → Q (.ref l) (upd H l (.tup ys))) ∨ (SqT K H p ys ∧ Q (.ref p) H))) W.tupleOf := fun N H ds vs k Q hN p w z => by
  unfold W.tupleOf at w
  split at w
  · obtain ⟨v, rfl, h⟩ := p.one
    obtain ⟨a, vs, rfl, h1, h2⟩ := h.lst
    exact ⟨a, vs, rfl, .inl ⟨h1, fun l hl => z.newT hN hl h2 w⟩⟩
  · obtain ⟨v, rfl, h⟩ := p.one
    have hr := h.rep fun _ e => nomatch e
    obtain ⟨a, vs, rfl, h1, h2⟩ := h.tup
    exact ⟨a, vs, rfl, .inr ⟨h1, z.here hr w⟩⟩
  · exact w.elim
/-! ### int, bool -/
def W.int1 : List D → (D → Prop) → Prop
  | [.int i], k => k (.int i)
  | [.bl b], k => k (.int (if b then 1 else 0))
  | _, _ => False
theorem l_int1 : LiftL K (fun xs H Q => (∃ i, xs = [V.int i] ∧ Q (.int i) H) ∨ ∃ k, xs = [V.bl k] ∧ Q (.int (if k then 1 else 0)) H) W.int1 := fun N H ds vs k Q hN p w z => by
  unfold W.int1 at w
  split at w
  · obtain ⟨v, rfl, h⟩ := p.one
    obtain rfl := h.int
    exact .inl ⟨_, rfl, z.here (d := .int _) rfl w⟩
  · obtain ⟨v, rfl, h⟩ := p.one
    obtain rfl := h.bl
    exact .inr ⟨_, rfl, z.here (d := .int _) rfl w⟩
  · exact w.elim
/-- bool of a list or a tuple -/
def W.boolL : List D → (D → Prop) → Prop
  | [.lst xs], k => k (.bl (!xs.isEmpty))
  | _, _ => False
/-! ### sorted -/
def W.sortI (ds : List D) (k : D → Prop) : Prop := ∃ ns : List Int, ds = [.lst (ns.map D.int)] ∧ ∀ ms : List Int, ms.Perm ns → ms.Pairwise (· ≤ ·) → k (.lst (ms.map D.int))
def W.sortS (ds : List D) (k : D → Prop) : Prop := ∃ ns : List Str, ds = [.lst (ns.map D.str)] ∧ ns.length < 64 ∧ ∀ ms : List Str, ms.Perm ns → sortedS ms = true → k (.lst (ms.map D.str))
def rSortedW (K : PySem.W.Frag) : List V → Hp → VK → Prop := fun xs H Q => rSortedI K xs H Q ∨ rSortedS K xs H Q
theorem cr_sortedW : CallR X (.builtin "sorted") (rSortedW X.K) := CallR.or cr_sortedI cr_sortedS
def W.sorted (ds : List D) (k : D → Prop) : Prop := W.sortI ds k ∨ W.sortS ds k
theorem l_sorted : LiftL K (rSortedW K) W.sorted := fun N H ds vs k Q hN p w z => by
  rcases w with ⟨ns, rfl, q⟩ | ⟨ns, rfl, hl, q⟩
  · obtain ⟨v, rfl, h⟩ := p.one
    obtain ⟨a, vs, rfl, h1, h2⟩ := h.lst
    rw [repL_ints h2] at h1
    exact .inl ⟨a, ns, rfl, h1, fun ms p m1 m2 hp => z.newL hN hp (repL_of_ints ms) (q ms m1 m2)⟩
  · obtain ⟨v, rfl, h⟩ := p.one
    obtain ⟨a, vs, rfl, h1, h2⟩ := h.lst
    rw [repL_strs h2] at h1
    exact .inr ⟨a, ns, rfl, h1, hl, fun ms p m1 m2 hp => z.newL hN hp (repL_of_strs ms) (q ms m1 m2)⟩
/-! ### repr -/
def W.repr (ds : List D) (k : D → Prop) : Prop := ∃ x, ds = [x] ∧ (∃ n B, D.ok n B x ∧ n ≤ 60 ∧ B ≤ sizeLine) ∧ k (.str x.shown)
theorem l_repr : LiftL K (rReprD K) W.repr := fun N H ds vs k Q hN p w z => by
  obtain ⟨x, rfl, ⟨n, B, hk, hn, hB⟩, q⟩ := w
  obtain ⟨v, rfl, h⟩ := p.one
  have hs := py_show x hk.1
  exact ⟨v, x.py, rfl, dpS_of hk.1 h, hs.1, PyData.hasDict_of_canLay _ hs.2, Nat.le_trans hk.2.1 hn, Nat.le_trans hk.2.2 hB, z.here (d := .str x.shown) rfl q⟩
/-! ### texts: join, split -/
def W.join1 (x : D) (ds : List D) (k : D → Prop) : Prop := ∃ (s : Str) (ss : List Str) (y : D), x = .str s ∧ ds = [y] ∧ (y = .lst (ss.map D.str) ∨ y = .tup (ss.map D.str)) ∧ (ss.map (·.length)).sum + ss.length * s.length ≤ 16777216 ∧ k (.str (Txt.join s ss))
theorem l_join : LiftM K (fun x xs H Q => ∃ a p, ∃ ys : List Str, x = .str a ∧ xs = [.ref p] ∧ (SqL K H p (ys.map V.str) ∨ SqT K H p (ys.map V.str)) ∧ (ys.map (·.length)).sum + ys.length * a.length ≤ 16777216 ∧ Q (.str (Txt.join a ys)) H) W.join1 := fun N H x v ds vs k Q hN px p w z => by
  obtain ⟨s, ss, y, rfl, rfl, hy, hz, q⟩ := w
  obtain ⟨u, rfl, h⟩ := p.one
  obtain ⟨a, vs, rfl, h1, h2⟩ := h.seq hy
  rw [repL_strs h2] at h1
  exact ⟨s, a, ss, px.str, rfl, h1, hz, z.here (d := .str _) rfl q⟩
def W.split1 (x : D) (ds : List D) (k : D → Prop) : Prop := ∃ s t : Str, x = .str s ∧ ds = [.str t] ∧ (t.length == 0) = false ∧ s.length + 2 ≤ sizeLine ∧ k (.lst ((Txt.split s t).map D.str))
theorem l_split : LiftM K (fun x xs H Q => ∃ a b, x = .str a ∧ xs = [.str b] ∧ (b.length == 0) = false ∧ a.length + 2 ≤ sizeLine ∧ rNewStrs (Txt.split a b) H Q) W.split1 := fun N H x v ds vs k Q hN px p w z => by
  obtain ⟨s, t, rfl, rfl, h1, h2, q⟩ := w
  obtain ⟨u, rfl, h⟩ := p.one
  exact ⟨s, t, px.str, by rw [h.str], h1, h2, fun p hp => z.newL hN hp (repL_of_strs _) q⟩
end
section
variable {M : Md} {O : List Addr} {r : List Sl} {σ : L2.St} {H : Hp} {k : D → Prop} {te ta tb : TE} {tl : TA} {E : Kn}
theorem e_rev (h : Dv M te O r fun x => W.rev x k) : De M (tRevL M.K te) O r k := fun σ H Q R z => h σ H _ R fun v H1 x R1 e1 p1 w => by
  cases x <;> first
    | exact (show False from w).elim
    | skip
  obtain ⟨a, vs, rfl, h1, h2⟩ := p1.s.lst
  exact ⟨a, vs, rfl, h1, fun p hp => (post_of R1 e1 z).newL (nf_tr R1) hp h2.reverse w⟩
def W.truth : D → (Bool → Prop) → Prop
  | .bl b, k => k b
  | _, _ => False
theorem t_test {kt : Bool → Prop} (h : De M te O r fun x => W.truth x kt) : DT M (tTest te) O r kt := dt_test (h.imp fun x w => by
  cases x <;> first
    | exact (show False from w).elim
    | exact ⟨_, rfl, w⟩)
theorem t_B {kt : Bool → Prop} (h : De M te O r fun x => W.truth x kt) : DT M (tB te) O r kt := dt_B (h.imp fun x w => by
  cases x <;> first
    | exact (show False from w).elim
    | exact ⟨_, rfl, w⟩)
theorem t_and {kt : Bool → Prop} {tt tu : TT} (h : DT M tt O r fun b => W.ite b (DT M tu O r kt) (kt false)) : DT M (tAnd tt tu) O r kt := dt_and (h.imp fun b w => ite_split w id id)
theorem t_or {kt : Bool → Prop} {tt tu : TT} (h : DT M tt O r fun b => W.ite b (kt true) (DT M tu O r kt)) : DT M (tOr tt tu) O r kt := dt_or (h.imp fun b w => ite_split w id id)
theorem e_if {tt : TT} (h : DT M tt O r fun b => W.ite b (De M ta O r k) (De M tb O r k)) : De M (tIf tt ta tb) O r k := de_if (h.imp fun b w => ite_split w id id)
theorem e_notV (h : De M te O r fun x => W.truth x fun b => k (.bl (!b))) : De M (tNotV te) O r k := de_notV (h.imp fun x w => by
  cases x <;> first
    | exact (show False from w).elim
    | exact ⟨_, rfl, w⟩)
theorem e_andV (h : De M ta O r fun x => W.truth x fun b => W.ite b (De M tb O r k) (k (.bl false))) : De M (tAndV ta tb) O r k := de_andV (h.imp fun x w => by
  cases x <;> first
    | exact (show False from w).elim
    | exact ⟨_, rfl, ite_split w id id⟩)
theorem e_orV (h : De M ta O r fun x => W.truth x fun b => W.ite b (k (.bl true)) (De M tb O r k)) : De M (tOrV ta tb) O r k := de_orV (h.imp fun x w => by
  cases x <;> first
    | exact (show False from w).elim
    | exact ⟨_, rfl, ite_split w id id⟩)
theorem W.ite.imp {b : Bool} {p q p' q' : Prop} (h : W.ite b p q) (f : p → p') (g : q → q') : W.ite b p' q' := ⟨fun e => f (h.1 e), fun e => g (h.2 e)⟩
def W.part : D → (Option Int → Prop) → Prop
  | .int i, k => k (some i)
  | _, _ => False
theorem o_some {k : Option Int → Prop} (h : De M te O r fun x => W.part x k) : DO M (tPart te) O r k := do_some (h.imp fun x w => by
  cases x <;> first
    | exact (show False from w).elim
    | exact ⟨_, rfl, w⟩)
theorem DO.imp {to : TO} {k k' : Option Int → Prop} (h : DO M to O r k) (i : ∀ o, k o → k' o) : DO M to O r k' := fun σ H Q R z => h σ H Q R fun o H1 R1 e1 q => z o H1 R1 e1 (i o q)
theorem e_lst (h : DA M tl O r fun ds => ds.length ≤ sizeLine ∧ k (.lst ds)) : De M (tLst tl) O r k := de_lst h
theorem e_tup (h : DA M tl O r fun ds => ds.length ≤ sizeLine ∧ k (.tup ds)) : De M (tTup tl) O r k := de_tup h
/-! ### an own list -/
theorem s_append {i : Nat} {p : Addr} {xs : List D} {ts : TS} (h : r[i]? = some (.mu p xs)) (q : De M te O r fun d => xs.length < sizeLine ∧ DS M ts O (r.set i (.mu p (xs ++ [d]))) E) :
    DS M (tSeq (tDrop (tBM M.K "list" rAppend (tVar i) (tCons te tNil))) ts) O r E := ds_seq fun σ H Z R z => by
  obtain ⟨e1, hp, vs, h1, h2⟩ := R.slot i _ h
  refine ⟨.ref p, e1, .inl ⟨rfl, vs, .inl (.inl h1)⟩, ?_⟩
  refine q σ H _ R fun v H1 d R1 e2 p1 ⟨hz, q1⟩ => ?_
  obtain ⟨_, _, vs', h1', h2'⟩ := R1.slot i _ h
  refine ⟨p, vs', v, rfl, rfl, h1', by rw [← h2'.length]; exact hz, ?_⟩
  exact z.nx O _ σ _ (R1.write h (h2'.append (.one p1))) (stp_write R1 h e2) q1
theorem s_own {i : Nat} {ts : TS} (h : DA M tl O r fun ds => ds.length ≤ sizeLine ∧ ∀ p, p ∉ O → DS M ts (p :: O) (r.set i (.mu p ds)) E) : DS M (tSeq (tAsg (tLst tl) (gName i)) ts) O r E := ds_seq (ds_own h)
theorem s_asg {i : Nat} {ts : TS} (h : De M te O r fun d => DS M ts O (r.set i (.d d)) E) : DS M (tSeq (tAsg te (gName i)) ts) O r E := ds_seq (ds_asg h)
theorem s_ret (h : De M te O r E.rt) : DS M (tRet te) O r E := ds_ret h
theorem s_aug {i : Nat} {d0 : D} {f : Int → Int → Int} {ts : TS} (hi : r[i]? = some (.d d0)) (h : De M te O r fun y => W.ii (fun _ _ => True) (fun a b => .int (f a b)) d0 y fun z => DS M ts O (r.set i (.d z)) E) : DS M (tSeq (tAug i te (ipI f)) ts) O r E := ds_seq fun σ H Z R z => by
  obtain ⟨u, e, h1⟩ := R.slot i _ hi
  refine ⟨u, e, h σ H _ R fun v H1 y R1 e1 p1 ⟨a, b, ea, eb, _, q⟩ => ?_⟩
  subst ea eb
  obtain rfl : u = .int a := h1
  obtain rfl : v = .int b := p1
  exact ⟨a, b, rfl, rfl, z.nx O _ _ H1 (R1.set (s := .d (.int (f a b))) ⟨_, rfl, rfl⟩ (fun p xs e => nomatch e)) (R1.stp e1) q⟩
/-- name = an own list's top, taken off; as the rest of a list that is put on another -/
theorem s_freeze (i : Nat) {p : Addr} {xs : List D} {ts : TS} (h : r[i]? = some (.mu p xs)) (q : DS M ts (O.erase p) (r.set i (.d (.lst xs))) E) : DS M ts O r E := ds_freeze i h q
/-! ### rows of values, some of them lists of one's own -/
def SlsR (M : Md) (O : List Addr) (H : Hp) : List Sl → List V → Prop
  | [], vs => vs = []
  | s :: ss, vs => ∃ v r, vs = v :: r ∧ SlR M O H (some (some v)) s ∧ SlsR M O H ss r
end
end Dw

/-! Wp5: several names at once, lists of one's own among them; draws. -/
namespace Dw
open PySem PySem.Spec PyProof.Rows L2
theorem ds_last {M : Md} {O : List Addr} {r : List Sl} {ts : TS} {E : Kn} (h : DS M (tSeq ts tNext) O r E) : DS M ts O r E := h
def muA : List Sl → List Addr
  | [] => []
  | .mu p _ :: ss => p :: muA ss
  | .un :: ss => muA ss
  | .d _ :: ss => muA ss
/-- a row of values, some of them new lists of one's own -/
def Do (M : Md) (ta : TA) (O : List Addr) (r : List Sl) (k : List Addr → List Sl → Prop) : Prop :=
  ∀ σ H (Q : List V → Hp → Prop), Rp M O r σ H → (∀ vs H' O' ss, Rp M O' r σ H' → Sm M.F0 H H' → (∀ p ∈ O', p ∈ O ∨ H p = none) → (∀ p ∈ O, p ∈ O') → SlsR M O' H' ss vs → (muA ss).Nodup → (∀ p ∈ muA ss, p ∈ O' ∧ p ∉ O) → k O' ss → Q vs H') → ta σ H Q
theorem SlR.up {M : Md} {O O' : List Addr} {H H' : Hp} {v : V} {s : Sl} (e : Sm M.F0 H H') (h1 : ∀ p ∈ O', p ∈ O ∨ H p = none) (h2 : ∀ p ∈ O, p ∈ O') (nf0 : ∀ p ∈ O, ¬ M.F0 p) (h : SlR M O H (some (some v)) s) : SlR M O' H' (some (some v)) s := by
  have g : ∀ a, nf M O' a → nf M O a ∨ H a = none := fun a ha => ha.elim (fun z => .inl (.inl z)) fun z => (h1 a z).imp .inr id
  have w : ∀ a, M.F0 a → nf M O' a := fun a z => .inl (M.f0 a z)
  cases s with
  | un => trivial
  | d x =>
    obtain ⟨u, e1, q⟩ := h
    exact ⟨u, e1, (q.gen g).mono (e.wide w)⟩
  | mu p xs =>
    obtain ⟨e1, hp, vs, q1, q2⟩ := h
    exact ⟨e1, h2 p hp, vs, e p _ (nf0 p hp) q1, (q2.gen g).mono (e.wide w)⟩
theorem Rp.nF {M : Md} {O : List Addr} {r : List Sl} {σ : L2.St} {H : Hp} (R : Rp M O r σ H) : ∀ p ∈ O, ¬ M.F0 p := fun p hp z => M.tr p (M.f0 p z) (R.own p hp).1
section
variable {M : Md} {O : List Addr} {r : List Sl} {k : List Addr → List Sl → Prop} {te : TE} {ta tl : TA} {E : Kn}
theorem do_nil (h : k O []) : Do M tNil O r k := fun σ H Q R z => z [] H O [] R .refl (fun _ h => .inl h) (fun _ h => h) rfl List.nodup_nil (fun _ h => nomatch h) h
theorem do_d (h : De M te O r fun d => Do M tl O r fun O' ss => k O' (.d d :: ss)) : Do M (tCons te tl) O r k := fun σ H Q R z => by
  refine h σ H _ R fun v H1 d R1 e1 p1 h1 => h1 σ H1 _ R1 fun vs H2 O2 ss R2 e2 a1 a2 b n n2 q => ?_
  refine z (v :: vs) H2 O2 (.d d :: ss) R2 (e1.trans e2) (fun p hp => ?_) a2 ⟨v, vs, rfl, SlR.up (s := .d d) e2 a1 a2 R1.nF ⟨v, rfl, p1⟩, b⟩ n n2 q
  rcases a1 p hp with y | y
  · exact .inl y
  · right
    cases eh : H p with
    | none => rfl
    | some o =>
      by_cases f : M.F0 p
      · exact absurd y (M.tk H1 p R1.inv f)
      · rw [e1 p o f eh] at y
        cases y
theorem do_new {xs : List D} {vs0 : List V} {p : Addr} {σ : L2.St} {H H1 : Hp} {Q : List V → Hp → Prop} (R : Rp M O r σ H) (R1 : Rp M O r σ H1) (e1 : Sm M.F0 H H1) (hp : H1 p = none) (h2 : RepL M.K (nf M O) H1 xs vs0)
    (z : ∀ vs H' O' ss, Rp M O' r σ H' → Sm M.F0 H H' → (∀ p ∈ O', p ∈ O ∨ H p = none) → (∀ p ∈ O, p ∈ O') → SlsR M O' H' ss vs → (muA ss).Nodup → (∀ p ∈ muA ss, p ∈ O' ∧ p ∉ O) → k O' ss → Q vs H')
    (q : Do M tl (p :: O) r fun O' ss => k O' (.mu p xs :: ss)) : tl σ (upd H1 p (.lst vs0)) fun vs H2 => Q (.ref p :: vs) H2 := by
  have pO : p ∉ O := fun y => (R1.own p y).2 hp
  have Ra := R1.own1 (o := .lst vs0) hp
  refine q σ _ _ Ra fun vs H2 O2 ss R2 e2 a1 a2 b n n2 q => ?_
  have h0 : H p = none := by
    cases eh : H p with
    | none => rfl
    | some o =>
      by_cases f : M.F0 p
      · exact absurd hp (M.tk H1 p R1.inv f)
      · rw [e1 p o f eh] at hp
        cases hp
  have up : ∀ a, (upd H1 p (.lst vs0)) a = none → H a = none := fun a ha => by
    by_cases y : a = p
    · rw [y]
      exact h0
    · rw [upd_ne y] at ha
      cases eh : H a with
      | none => rfl
      | some o =>
        by_cases f : M.F0 a
        · exact absurd ha (M.tk H1 a R1.inv f)
        · rw [e1 a o f eh] at ha
          cases ha
  refine z (.ref p :: vs) H2 O2 (.mu p xs :: ss) R2 ((e1.trans (sm_0 (sm_new hp))).trans e2) (fun a ha => ?_) (fun a ha => a2 a (List.mem_cons_of_mem _ ha)) ⟨.ref p, vs, rfl, SlR.up (s := .mu p xs) e2 a1 a2 Ra.nF ⟨rfl, List.mem_cons_self, vs0, upd_same, h2.own1 hp⟩, b⟩ (List.nodup_cons.mpr ⟨fun y => ?_, n⟩) (fun a ha => ?_) q
  · rcases a1 a ha with y | y
    · rcases List.mem_cons.mp y with rfl | y
      · exact .inr h0
      · exact .inl y
    · exact .inr (up a y)
  · exact (n2 p y).2 List.mem_cons_self
  · rcases List.mem_cons.mp (show a ∈ p :: muA ss from ha) with rfl | y
    · exact ⟨a2 a List.mem_cons_self, pO⟩
    · exact ⟨(n2 a y).1, fun w => (n2 a y).2 (List.mem_cons_of_mem _ w)⟩
theorem do_l (h : DA M ta O r fun ds => ds.length ≤ sizeLine ∧ ∀ p, p ∉ O → Do M tl (p :: O) r fun O' ss => k O' (.mu p ds :: ss)) : Do M (tCons (tLst ta) tl) O r k := fun σ H Q R z => by
  refine h σ H _ R fun vs0 H1 ds R1 e1 p1 ⟨hz, h1⟩ => ⟨by rw [← p1.length]; exact hz, fun p hp => ?_⟩
  exact do_new R R1 e1 hp p1 z (h1 p fun y => (R1.own p y).2 hp)
theorem do_lo (h : Dv M te O r fun x => ∃ xs, (x = .lst xs ∨ x = .tup xs) ∧ ∀ p, p ∉ O → Do M tl (p :: O) r fun O' ss => k O' (.mu p xs :: ss)) : Do M (tCons (tListOf M.K te) tl) O r k := fun σ H Q R z => by
  refine h σ H _ R fun v H1 x R1 e1 p1 ⟨xs, hx, h1⟩ => ?_
  obtain ⟨a, vs, rfl, sq, h2⟩ := p1.s.seq hx
  exact ⟨a, vs, rfl, sq, fun p hp => do_new R R1 e1 hp h2 z (h1 p fun y => (R1.own p y).2 hp)⟩
def setAll (r : List Sl) : List Nat → List Sl → List Sl
  | i :: is, s :: ss => setAll (r.set i s) is ss
  | _, _ => r
theorem noMu.setD {r : List Sl} {p : Addr} {i : Nat} {s : Sl} (h : noMu r p) (n : ∀ xs, s ≠ .mu p xs) : noMu (r.set i s) p := fun j ys hj => by
  by_cases e : i = j
  · subst e
    by_cases hi : i < r.length
    · rw [List.getElem?_set_self hi] at hj
      exact n ys (Option.some.inj hj)
    · rw [List.getElem?_eq_none (by rw [List.length_set]; omega)] at hj
      cases hj
  · rw [List.getElem?_set_ne e] at hj
    exact h j ys hj
/-- the slots hold the row -/
def stAll (σ : L2.St) : List Nat → List V → L2.St
  | i :: is, v :: vs => stAll (σ.set i (some v)) is vs
  | _, _ => σ
theorem rp_all {O : List Addr} {H : Hp} : ∀ (is : List Nat) (ss : List Sl) (vs : List V) (r : List Sl) (σ : L2.St), Rp M O r σ H → SlsR M O H ss vs → (muA ss).Nodup → (∀ p ∈ muA ss, noMu r p) → Rp M O (setAll r is ss) (stAll σ is vs) H
  | [], ss, vs, r, σ, R, _, _, _ => by
    cases ss <;> cases vs <;> exact R
  | i :: is, [], vs, r, σ, R, h, _, _ => by
    obtain rfl := (show vs = [] from h)
    exact R
  | i :: is, s :: ss, vs, r, σ, R, h, n, n2 => by
    obtain ⟨v, t, rfl, h1, h2⟩ := h
    show Rp M O (setAll (r.set i s) is ss) (stAll (σ.set i (some v)) is t) H
    refine rp_all is ss t _ _ (R.set h1 fun p xs e j ys _ hy => ?_) h2 ?_ fun p hp => ?_
    · subst e
      exact n2 p List.mem_cons_self j ys hy
    · cases s with
      | mu p xs => exact (List.nodup_cons.mp n).2
      | un => exact n
      | d x => exact n
    · cases s with
      | mu q xs =>
        refine (n2 p (List.mem_cons_of_mem _ hp)).setD fun ys e => ?_
        cases e
        exact (List.nodup_cons.mp n).1 hp
      | un => exact (n2 p hp).setD fun ys e => nomatch e
      | d x => exact (n2 p hp).setD fun ys e => nomatch e
theorem do_stp {σ : L2.St} {H H' : Hp} {O' : List Addr} (R : Rp M O' r σ H') (e : Sm M.F0 H H') (h1 : ∀ p ∈ O', p ∈ O ∨ H p = none) : Stp M O H O' H' := ⟨sm_st e, h1, fun a h => by
  by_cases f : M.F0 a
  · exact M.tk H' a R.inv f
  · cases eh : H a with
    | none => exact absurd eh h
    | some o =>
      rw [e a o f eh]
      exact fun z => nomatch z⟩
theorem s_par {i j : Nat} {ts : TS} (h : Do M ta O r fun O' ss => ss.length = 2 ∧ DS M ts O' (setAll r [i, j] ss) E) : DS M (tSeq (tPar i j ta) ts) O r E := ds_seq fun σ H Z R z => by
  refine h σ H _ R fun vs H1 O1 ss R1 e1 a1 a2 b n n2 ⟨hl, q⟩ => ?_
  match ss, hl with
  | [s1, s2], _ =>
    obtain ⟨v, t, rfl, b1, b2⟩ := id b
    obtain ⟨u, t2, rfl, b3, b4⟩ := b2
    obtain rfl := (show t2 = [] from b4)
    exact ⟨v, u, rfl, z.nx O1 _ _ H1 (rp_all [i, j] [s1, s2] [v, u] r σ R1 b n fun p hp => noMu.out R fun w => (n2 p hp).2 w) (do_stp R1 e1 a1) q⟩
def gNs : List Nat → TGs
  | [] => gNil
  | i :: is => gCons (gName i) (gNs is)
theorem gNs_run : ∀ (is : List Nat) (vs : List V) (σ : L2.St) (H : Hp) (Q : L2.St → Hp → Prop), is.length = vs.length → Q (stAll σ is vs) H → gNs is vs σ H Q
  | [], [], σ, H, Q, _, q => ⟨rfl, q⟩
  | i :: is, v :: vs, σ, H, Q, hl, q => ⟨v, vs, rfl, gNs_run is vs _ H Q (by simpa using hl) q⟩
theorem SlsR.len {M : Md} {O : List Addr} {H : Hp} : ∀ {ss : List Sl} {vs : List V}, SlsR M O H ss vs → ss.length = vs.length
  | [], _, h => by
    obtain rfl := (show _ = [] from h)
    rfl
  | s :: ss, _, ⟨v, r, e, _, h⟩ => by
    subst e
    rw [List.length_cons, List.length_cons, SlsR.len h]
theorem SlsR.grow {M : Md} {O : List Addr} {H H' : Hp} (e : Sm M.F0 H H') (nF : ∀ p ∈ O, ¬ M.F0 p) : ∀ {ss : List Sl} {vs : List V}, SlsR M O H ss vs → SlsR M O H' ss vs
  | [], _, h => h
  | s :: ss, _, ⟨v, r, e1, h1, h2⟩ => ⟨v, r, e1, h1.up e (fun _ h => .inl h) (fun _ h => h) nF, SlsR.grow e nF h2⟩
/-- a, b, .. = e, f, .. by way of a tuple -/
theorem s_tup (is : List Nat) {n : Nat} {ts : TS} (hn : is.length = n) (hs : n ≤ 60) (h : Do M ta O r fun O' ss => ss.length = is.length ∧ DS M ts O' (setAll r is ss) E) : DS M (tSeq (tAsg (tTup ta) (gTup M.K n (gNs is))) ts) O r E := ds_seq fun σ H Z R z => by
  refine h σ H _ R fun vs H1 O1 ss R1 e1 a1 a2 b nn n2 ⟨hl, q⟩ => ?_
  have lv := b.len
  refine ⟨Nat.le_trans (by omega : vs.length ≤ 60) (by decide), fun t ht => ?_⟩
  have R2 := R1.grow (sm_new (o := .tup vs) ht)
  refine ⟨t, vs, rfl, .inl (.inl upd_same), by omega, gNs_run is vs σ _ _ (by omega) ?_⟩
  exact z.nx O1 _ _ _ (rp_all is ss vs r σ R2 (b.grow (sm_0 (sm_new ht)) R1.nF) nn fun p hp => noMu.out R fun w => (n2 p hp).2 w) (do_stp R2 (e1.trans (sm_0 (sm_new ht))) a1) q
theorem s_freezeH (i : Nat) {p : Addr} {xs : List D} {ts : TS} (h : r[i]? = some (.mu p xs)) (q : DS M ts O (r.set i (.d (.lst xs))) E) : DS M ts (p :: O) r E := ds_freeze i h (by
  have e : (p :: O).erase p = O := List.erase_cons_head p O
  rw [e]
  exact q)
theorem s_appendPop {i j : Nat} {p q : Addr} {xs ys : List D} {ts : TS} (hi : r[i]? = some (.mu p xs)) (hj : r[j]? = some (.mu q ys)) (hij : i ≠ j)
    (h : De M te O r fun d => ys.length < sizeLine ∧ ∃ n : Nat, d = .int n ∧ n < xs.length ∧ xs.length ≤ 1000000 ∧ ∀ x, xs[n]? = some x → DS M ts O ((r.set i (.mu p (xs.eraseIdx n))).set j (.mu q (ys ++ [x]))) E) :
    DS M (tSeq (tDrop (tBM M.K "list" rAppend (tVar j) (tCons (tBM M.K "list" rPopAt (tVar i) (tCons te tNil)) tNil))) ts) O r E := by
  by_cases hz : ys.length < sizeLine
  · exact ds_seq (ds_appendPop hi hj hij hz (h.imp fun d hd => hd.2))
  · refine ds_seq fun σ H Z R z => ?_
    obtain ⟨e1, hp, vs, h1, h2⟩ := R.slot i _ hi
    obtain ⟨f1, hq, ws, g1, g2⟩ := R.slot j _ hj
    refine ⟨.ref q, f1, .inl ⟨rfl, ws, .inl (.inl g1)⟩, .ref p, e1, .inl ⟨rfl, vs, .inl (.inl h1)⟩, ?_⟩
    exact h σ H _ R fun v H1 d R1 e2 p1 ⟨hz2, _⟩ => (hz hz2).elim
/-- the top of an own list -/
def W.top (xs : List D) (k : D → List D → Prop) : Prop := ∃ ys x, xs = ys ++ [x] ∧ k x ys
theorem s_appendTop {i j : Nat} {p q : Addr} {xs ys : List D} {c : Str} {ts : TS} (hi : r[i]? = some (.mu p xs)) (hj : r[j]? = some (.mu q ys)) (hij : i ≠ j)
    (h : W.top xs fun x zs => ys.length < sizeLine ∧ DS M ts O ((r.set i (.mu p zs)).set j (.mu q (ys ++ [.tup [.str c, x]]))) E) :
    DS M (tSeq (tDrop (tBM M.K "list" rAppend (tVar j) (tCons (tTup (tCons (tC (.str c)) (tCons (tBM0 M.K "list" rPop (tVar i)) tNil))) tNil))) ts) O r E := by
  obtain ⟨zs, x, rfl, hz, q⟩ := h
  exact ds_seq (ds_appendTop hi hj hij hz q)
end
/-! ### draws -/
def W.draw : D → (D → Prop) → Prop
  | .int n, k => (0 < n ∧ n < 1073741824) ∧ ∀ m : Int, 0 ≤ m → m < n → k (.int m)
  | _, _ => False
theorem draw_w {K : PySem.W.Frag} {vs : List V} {H : Hp} {Q : VK} {E : XK} (h : SpDl K (W.a1 W.draw) vs H Q E) : spDraw K vs H Q E := by
  obtain ⟨g, ds, F, k, p, f0, tr, i, ⟨r, rfl, w⟩, z⟩ := h
  obtain ⟨a, rfl, w⟩ := a1_e w
  obtain ⟨n, rfl⟩ : ∃ n, a = .int n := by
    cases a <;> first
      | exact (show False from w).elim
      | exact ⟨_, rfl⟩
  exact ⟨g, _, F, p, f0, tr, i, ⟨n, rfl, w.1.1, w.1.2⟩, fun v H' d s i' po ⟨n2, m, e1, e2, m0, m1⟩ => by
    cases e1
    subst e2
    exact z v H' (.int m) s i' po (w.2 m m0 m1)⟩
end Dw
namespace Dw
open PySem PySem.Spec PyProof.Rows L2
theorem lenLe {ds : List D} (n : Nat) (h : n ≤ sizeLine) (e : ds.length = n := by rfl) : ds.length ≤ sizeLine := by rw [e]; exact h
theorem _root_.L2.Room.units65 {k : Nat} {A : Around} (r : L2.Room k A) : A.units + 65 < cLine := by have := r.un; omega
theorem truth_imp {x : D} {k k' : Bool → Prop} (h : W.truth x k) (i : ∀ b, k b → k' b) : W.truth x k' := by
  cases x <;> first
    | exact (show False from h).elim
    | exact i _ h
theorem ii_imp {C : Int → Int → Prop} {g : Int → Int → D} {x y : D} {k k' : D → Prop} (h : W.ii C g x y k) (i : ∀ d, k d → k' d) : W.ii C g x y k' := by
  obtain ⟨a, b, ea, eb, c, q⟩ := h
  exact ⟨a, b, ea, eb, c, i _ q⟩
theorem top_imp {xs : List D} {k k' : D → List D → Prop} (h : W.top xs k) (i : ∀ x ys, k x ys → k' x ys) : W.top xs k' := by
  obtain ⟨ys, x, e, q⟩ := h
  exact ⟨ys, x, e, i _ _ q⟩
theorem pop_imp {A : Prop} {d : D} {xs : List D} {k k' : Nat → D → Prop} (h : A ∧ ∃ n : Nat, d = .int n ∧ n < xs.length ∧ xs.length ≤ 1000000 ∧ ∀ x, xs[n]? = some x → k n x) (i : ∀ n x, k n x → k' n x) :
    A ∧ ∃ n : Nat, d = .int n ∧ n < xs.length ∧ xs.length ≤ 1000000 ∧ ∀ x, xs[n]? = some x → k' n x := by
  obtain ⟨a, n, h1, h2, h3, q⟩ := h
  exact ⟨a, n, h1, h2, h3, fun x hx => i n x (q x hx)⟩
theorem seq_own {x : D} {k : List D → Prop} {k' : List D → Prop} (h : W.seq x k) (i : ∀ xs, k xs → k' xs) : ∃ xs, (x = .lst xs ∨ x = .tup xs) ∧ k' xs := by
  obtain ⟨xs, e, q⟩ := seq_e h
  exact ⟨xs, e, i _ q⟩
section
variable {M : Md} {O : List Addr} {r : List Sl} {te : TE} {ts : TS} {E : Kn}
theorem s_un2 {i j : Nat} {f : D → D → Prop} (h : De M te O r fun d => W.un2 d f) (q : ∀ a b, f a b → DS M ts O ((r.set i (.d a)).set j (.d b)) E) : DS M (tSeq (tAsg te (gTup M.K 2 (gCons (gName i) (gCons (gName j) gNil)))) ts) O r E :=
  ds_seq fun σ H Z R z => h σ H _ R fun v H1 d R1 e1 p1 w => (dg_un2 (i := i) (j := j) (k := fun r2 => DS M ts O r2 E) w q) v σ H1 _ R1 p1 fun σ' r' R' _ q' => z.nx O r' σ' H1 R' (R'.stp e1) q'
theorem s_un3 {i j l : Nat} {f : D → D → D → Prop} (h : De M te O r fun d => W.un3 d f) (q : ∀ a b c, f a b c → DS M ts O (((r.set i (.d a)).set j (.d b)).set l (.d c)) E) : DS M (tSeq (tAsg te (gTup M.K 3 (gCons (gName i) (gCons (gName j) (gCons (gName l) gNil))))) ts) O r E :=
  ds_seq fun σ H Z R z => h σ H _ R fun v H1 d R1 e1 p1 w => (dg_un3 (i := i) (j := j) (l := l) (k := fun r2 => DS M ts O r2 E) w q) v σ H1 _ R1 p1 fun σ' r' R' _ q' => z.nx O r' σ' H1 R' (R'.stp e1) q'
end
end Dw

/-! Wq: short ways to what is asked. -/
namespace Dw
open PySem PySem.Spec PyProof.Rows L2
theorem q_eqS {a b : Str} {k : D → Prop} (h : k (.bl (decide (a = b)))) : W.eq (.str a) (.str b) k := .inl ⟨_, _, rfl, rfl, rfl, by
  have e : decide (V.str a = V.str b) = decide (a = b) := decide_eq_decide.mpr ⟨fun z => V.str.inj z, fun z => by rw [z]⟩
  rw [e]
  exact h⟩
theorem q_eqI {a b : Int} {k : D → Prop} (h : k (.bl (decide (a = b)))) : W.eq (.int a) (.int b) k := .inl ⟨_, _, rfl, rfl, rfl, by
  have e : decide (V.int a = V.int b) = decide (a = b) := decide_eq_decide.mpr ⟨fun z => V.int.inj z, fun z => by rw [z]⟩
  rw [e]
  exact h⟩
theorem q_neS {a b : Str} {k : D → Prop} (h : k (.bl (!decide (a = b)))) : W.ne (.str a) (.str b) k := .inl ⟨_, _, rfl, rfl, rfl, by
  have e : decide (V.str a = V.str b) = decide (a = b) := decide_eq_decide.mpr ⟨fun z => V.str.inj z, fun z => by rw [z]⟩
  rw [e]
  exact h⟩
theorem q_neI {a b : Int} {k : D → Prop} (h : k (.bl (!decide (a = b)))) : W.ne (.int a) (.int b) k := .inl ⟨_, _, rfl, rfl, rfl, by
  have e : decide (V.int a = V.int b) = decide (a = b) := decide_eq_decide.mpr ⟨fun z => V.int.inj z, fun z => by rw [z]⟩
  rw [e]
  exact h⟩
theorem q_ii {g : Int → Int → D} {i j : Int} {k : D → Prop} (h : k (g i j)) : W.ii (fun _ _ => True) g (.int i) (.int j) k := ⟨i, j, rfl, rfl, trivial, h⟩
theorem q_iiC {C : Int → Int → Prop} {g : Int → Int → D} {i j : Int} {k : D → Prop} (c : C i j) (h : k (g i j)) : W.ii C g (.int i) (.int j) k := ⟨i, j, rfl, rfl, c, h⟩
theorem q_ixT {xs : List D} {i : Nat} {d : D} {k : D → Prop} (e : xs[i]? = some d) (h : k d) : W.ix (.tup xs) (.int (i : Int)) k := ⟨d, L2.atI_nat e, h⟩
theorem q_ixL {xs : List D} {i : Nat} {d : D} {k : D → Prop} (e : xs[i]? = some d) (h : k d) : W.ix (.lst xs) (.int (i : Int)) k := ⟨d, L2.atI_nat e, h⟩
theorem q_t {b : Bool} {k : Bool → Prop} (h : k b) : W.truth (.bl b) k := h
theorem q_ite {b : Bool} {p q : Prop} (h1 : b = true → p) (h2 : b = false → q) : W.ite b p q := ⟨h1, h2⟩
theorem q_dec {c : Prop} [Decidable c] {p q : Prop} (h1 : c → p) (h2 : ¬ c → q) : W.ite (decide c) p q := ⟨fun z => h1 (of_decide_eq_true z), fun z => h2 (of_decide_eq_false z)⟩
theorem q_decN {c : Prop} [Decidable c] {p q : Prop} (h1 : ¬ c → p) (h2 : c → q) : W.ite (!decide c) p q := ⟨fun z => h1 fun y => by simp [y] at z, fun z => h2 (by simpa using z)⟩
theorem q_T {p q : Prop} (h : p) : W.ite true p q := W.ite_t.mpr h
theorem q_F {p q : Prop} (h : q) : W.ite false p q := W.ite_f.mpr h
theorem q_join {α : Type} {m : (α → Prop) → Prop} {k : α → Prop} (h : m k) : W.join m k := h
/-- a loop, by an invariant over what is left -/
theorem q_forL {S : Type} {body : D → S → (S → Prop) → (S → Prop) → Prop} {p : S → Prop} (I : List D → S → Prop) (fin : ∀ s, I [] s → p s) (turn : ∀ x xs s, I (x :: xs) s → body x s (fun s' => I xs s') p) (mono : ∀ x s (n n' b : S → Prop), (∀ s, n s → n' s) → body x s n b → body x s n' b) :
    ∀ {xs : List D} {s : S}, I xs s → W.forL body xs s p
  | [], s, h => fin s h
  | x :: xs, s, h => mono x s _ _ _ (fun s' h' => q_forL I fin turn mono h') (turn x xs s h)
end Dw

/-! Wp6: sorted lists of data of any kind, any number; sorted by length. -/
namespace Dw
open PySem PySem.Spec PyProof.Rows L2
open PySem.W (EachIs AllAlike Sortable dataLe dataLt alike KeyPure)
/-- sorted(x) of alike data: THE sorted list -/
def rSortedDt (K : PySem.W.Frag) : List V → Hp → VK → Prop := fun vs H Q => ∃ (a : Addr) (us : List V) (ds : List PyData), vs = [V.ref a] ∧ SqL K H a us ∧ DpAll K H us ds ∧ (us.length < 2 ∨ (AllAlike ds ∧ Sortable ds ∧ ∀ d ∈ ds, d.depth ≤ 60)) ∧
  ∀ p, H p = none → Q (.ref p) (upd H p (.lst (((us.zip ds).mergeSort (dataLe false fun b : V × PyData => b.2)).map (·.1))))
theorem DpAll.len {K : PySem.W.Frag} {H : Hp} : ∀ {us : List V} {ds : List PyData}, DpAll K H us ds → us.length = ds.length
  | [], [], _ => rfl
  | u :: us, d :: ds, h => by
    cases h with
    | cons h1 h2 => rw [List.length_cons, List.length_cons, DpAll.len h2]
theorem each_zip {X : Cx} {pins : List (Addr × Obj)} {σ : L2.St} {H : Hp} {s : Shared} (I : Inv X pins σ H s) : ∀ {us : List V} {ds : List PyData} {its : List Value}, DpAll X.K H us ds → Vals us its →
    EachIs (fun v (b : V × PyData) => RelV b.1 v) its (us.zip ds) ∧ EachIs (fun v (b : V × PyData) => ∃ as, Reads s.heap v b.2 as) its (us.zip ds)
  | [], [], _, _, r => by
    cases r
    exact ⟨.nil, .nil⟩
  | u :: us, d :: ds, _, h, r => by
    cases h with
    | cons h1 h2 =>
      cases r with
      | cons r1 r2 =>
        obtain ⟨a, b⟩ := each_zip I h2 r2
        exact ⟨.cons r1 a, .cons (Dp.reads I d u _ h1 r1) b⟩
theorem each_vals : ∀ {out : List Value} {bs : List (V × PyData)}, EachIs (fun v (b : V × PyData) => RelV b.1 v) out bs → Vals (bs.map (·.1)) out
  | _, _, .nil => .nil
  | _, _, .cons h t => .cons h (each_vals t)
theorem sort_short {α : Type} (le : α → α → Bool) : ∀ {l : List α}, l.length < 2 → l.mergeSort le = l
  | [], _ => List.mergeSort_nil
  | [x], _ => List.mergeSort_singleton x
  | x :: y :: l, h => by
    rw [List.length_cons, List.length_cons] at h
    omega
theorem perm_short {α : Type} : ∀ {its out : List α}, its.length < 2 → out.Perm its → out = its
  | [], out, _, pm => pm.eq_nil
  | [x], out, _, pm => List.perm_singleton.mp pm
  | x :: y :: l, _, h, _ => by
    rw [List.length_cons, List.length_cons] at h
    omega
theorem cr_sortedDt {X : Cx} (hu : X.A.units + 64 < cLine) : CallR X (.builtin "sorted") (rSortedDt X.K) := by
  intro pins s σ H vs us0 Q I r h
  obtain ⟨a, us, ds, rfl, hs, hd, hw, q⟩ := h
  obtain ⟨its, rv, hl, hz⟩ := I.list hs
  rw [Vals.ref1 r]
  rcases hw with hw | ⟨al, so, dp⟩
  · have hli : its.length < 2 := by rw [← rv.length]; exact hw
    refine Srt.sorted_any hl.isList (by rw [← rv.length]; exact hz) (fun h2 => absurd hli (by omega)) fun out pm => ?_
    obtain rfl := perm_short hli pm
    obtain ⟨ep, he'⟩ := PyProof.Rows.sortedAll_at s.heap out out.toArray
    have em : ((us.zip ds).mergeSort (dataLe false fun b : V × PyData => b.2)).map (·.1) = us := by
      have hlen := DpAll.len hd
      have e0 : (us.zip ds).mergeSort (dataLe false fun b : V × PyData => b.2) = us.zip ds := sort_short _ (by rw [List.length_zip]; omega)
      rw [e0]
      exact List.map_fst_zip (by omega)
    have qq := q (s.heap.objs.size + 1) (I.hok.fresh (Nat.le_succ _))
    rw [em] at qq
    exact ⟨.ref _, upd H (s.heap.objs.size + 1) (.lst _), I.laid (t' := s.toks) (fun _ _ => PyProof.Rows.sortedAll_old) (Nat.le_succ _) ⟨hz, out, ep, rv, he'⟩, rfl, qq⟩
  obtain ⟨e1, e2⟩ := each_zip I hd rv
  have hlen := DpAll.len hd
  have em : (us.zip ds).map (fun b : V × PyData => b.2) = ds := List.map_snd_zip (by omega)
  have zl : (us.zip ds).length = us.length := by rw [List.length_zip, hlen, Nat.min_self]
  refine PySem.W.sorted_data (bs := us.zip ds) (enc := fun b : V × PyData => b.2) hl.isList e1 e2 (by rw [em]; exact al) (by rw [em]; exact so) (by rw [zl]; exact hz) (fun b hb => ?_) fun out ol eo => ?_
  · have : b.2 ∈ ds := by
      rw [← em]
      exact List.mem_map.mpr ⟨b, hb, rfl⟩
    have := dp _ this
    omega
  · obtain ⟨ep, he'⟩ := PyProof.Rows.sortedAll_at s.heap its out.toArray
    have hv := each_vals eo
    have hl2 : (((us.zip ds).mergeSort (dataLe false fun b : V × PyData => b.2)).map (·.1)).length ≤ sizeLine := by
      rw [List.length_map, List.length_mergeSort, zl]
      exact hz
    exact ⟨.ref _, upd H (s.heap.objs.size + 1) (.lst _), I.laid (t' := s.toks) (fun _ _ => PyProof.Rows.sortedAll_old) (Nat.le_succ _) ⟨hl2, out, ep, hv, he'⟩, rfl, q _ (I.hok.fresh (Nat.le_succ _))⟩
/-- the sorted list, over trees -/
def sortD (xs : List D) : List D := xs.mergeSort (dataLe false D.py)
def W.sortedDt (ds : List D) (k : D → Prop) : Prop := ∃ xs, ds = [.lst xs] ∧ (∀ d ∈ xs, d.pl = true) ∧ (xs.length < 2 ∨ (AllAlike (D.pyL xs) ∧ Sortable (D.pyL xs) ∧ ∀ d ∈ xs, d.py.depth ≤ 60)) ∧ k (.lst (sortD xs))
theorem pyL_map : ∀ xs : List D, D.pyL xs = xs.map D.py
  | [] => rfl
  | x :: xs => congrArg (x.py :: ·) (pyL_map xs)
theorem repL_each {K : PySem.W.Frag} {N : No} {H : Hp} : ∀ {xs : List D} {us : List V}, RepL K N H xs us → EachIs (fun (b : V × PyData) (d : D) => Rep K N H d b.1 ∧ b.2 = d.py) (us.zip (D.pyL xs)) xs
  | [], us, h => by
    obtain rfl := (show us = [] from h)
    exact .nil
  | x :: xs, _, ⟨v, r, e, h1, h2⟩ => by
    subst e
    exact .cons ⟨h1, rfl⟩ (repL_each h2)
theorem each_repL {K : PySem.W.Frag} {N : No} {H : Hp} : ∀ {bs : List (V × PyData)} {xs : List D}, EachIs (fun (b : V × PyData) (d : D) => Rep K N H d b.1 ∧ b.2 = d.py) bs xs → RepL K N H xs (bs.map (·.1))
  | _, _, .nil => .nil
  | _, _, .cons h t => .cons h.1 (each_repL t)
theorem l_sortedDt {K : PySem.W.Frag} : LiftL K (rSortedDt K) W.sortedDt := fun N H ds vs k Q hN p w z => by
  obtain ⟨xs, rfl, hp, hw, q⟩ := w
  obtain ⟨v, rfl, h⟩ := p.one
  obtain ⟨a, us, rfl, h1, h2⟩ := h.lst
  refine ⟨a, us, D.pyL xs, rfl, h1, dpL_of (plL_of hp) h2, hw.imp (fun z => by rw [← h2.length]; exact z) fun ⟨al, so, dp⟩ => ⟨al, so, fun d hd => by
    rw [pyL_map] at hd
    obtain ⟨x, hx, rfl⟩ := List.mem_map.mp hd
    exact dp x hx⟩, fun p hpn => z.newL hN hpn ?_ q⟩
  · refine each_repL (PySem.W.sort_each (repL_each h2) fun p hp q hq => ?_)
    have e1 := PySem.W.EachIs.zip (repL_each h2) p hp
    have e2 := PySem.W.EachIs.zip (repL_each h2) q hq
    show dataLe false (fun b : V × PyData => b.2) p.1 q.1 = dataLe false D.py p.2 q.2
    show dataLe false (fun d : PyData => d) p.1.2 q.1.2 = dataLe false (fun d : PyData => d) p.2.py q.2.py
    rw [e1.2, e2.2]
end Dw

/-! Wp7: own objects as trees: fields read, methods, properties, making (with __init__). -/
namespace Dw
open PySem PySem.Spec PyProof.Rows L2
/-- field f of an object of one of the classes -/
def W.fld (cs : List Addr) (f : Str) (d : D) (k : D → Prop) : Prop := ∃ C ns ds x, C ∈ cs ∧ d = .ins C ns ds ∧ (ns.zip ds).lookup f = some x ∧ k x
/-- an object of one of the classes, m no field of it -/
def W.obj (cs : List Addr) (m : Str) (d : D) (k : Prop) : Prop := ∃ C ns ds, C ∈ cs ∧ d = .ins C ns ds ∧ ns.contains m = false ∧ k
theorem zip_lookup {K : PySem.W.Frag} {N : No} {H : Hp} {f : Str} {x : D} : ∀ {ns : List Str} {ds : List D} {vs : List V}, RepL K N H ds vs → (ns.zip ds).lookup f = some x → ∃ v, (ns.zip vs).lookup f = some v ∧ Rep K N H x v
  | [], ds, vs, _, h => by
    rw [List.zip_nil_left] at h
    cases h
  | n :: ns, [], vs, _, h => by
    rw [List.zip_nil_right] at h
    cases h
  | n :: ns, d :: ds, _, ⟨v, r, e, h1, h2⟩, h => by
    subst e
    rw [List.zip_cons_cons, List.lookup_cons] at h ⊢
    by_cases q : f == n
    · rw [q] at h ⊢
      cases h
      exact ⟨v, rfl, h1⟩
    · have q' : (f == n) = false := by simpa using q
      rw [q'] at h ⊢
      exact zip_lookup h2 h
theorem zip_none {f : Str} : ∀ {ns : List Str} {vs : List V}, ns.contains f = false → (ns.zip vs).lookup f = none
  | [], vs, _ => by
    rw [List.zip_nil_left]
    rfl
  | n :: ns, [], _ => by
    rw [List.zip_nil_right]
    rfl
  | n :: ns, v :: vs, h => by
    rw [List.zip_cons_cons, List.lookup_cons]
    rw [List.contains_cons, Bool.or_eq_false_iff] at h
    rw [h.1]
    exact zip_none h.2
theorem zip_put {f : Str} {v : V} : ∀ {ns : List Str} {vs : List V}, ns.length = vs.length → ns.contains f = false → putF f v (ns.zip vs) = (ns ++ [f]).zip (vs ++ [v])
  | [], [], _, _ => rfl
  | n :: ns, u :: vs, hl, h => by
    rw [List.contains_cons, Bool.or_eq_false_iff] at h
    have ne : ¬ n = f := fun e => by
      subst e
      have := h.1
      simp at this
    rw [List.zip_cons_cons, putF.eq_2, if_neg ne, zip_put (by simpa using hl) h.2]
    rfl
theorem repL_snoc {K : PySem.W.Frag} {N : No} {H : Hp} {d : D} {v : V} : ∀ {ds : List D} {vs : List V}, RepL K N H ds vs → Rep K N H d v → RepL K N H (ds ++ [d]) (vs ++ [v])
  | [], _, h, p => by
    obtain rfl := (show _ = [] from h)
    exact ⟨v, [], rfl, p, rfl⟩
  | x :: ds, _, ⟨u, r, e, h1, h2⟩, p => by
    subst e
    exact ⟨u, r ++ [v], rfl, h1, repL_snoc h2 p⟩
/-- a def of an own class that makes no own object from outside: self is made just now -/
def SpI (K : PySem.W.Frag) (C : Addr) (w : List D → (D → Prop) → Prop) : Sp := fun vs H Q _ =>
  ∃ (x dx : Addr) (us : List V) (ds : List D) (F : No) (k : D → Prop) (H1 : Hp), vs = .ref x :: us ∧ H1 x = none ∧ H1 dx = none ∧ dx ≠ x ∧ H = upd (upd H1 dx (.own x)) x (.ins C dx []) ∧ RepL K F H1 ds us ∧ (∀ a, F a → H1 a ≠ none) ∧ w ds k ∧
    ∀ H2 d, Sm (fun _ => False) H1 H2 → Rep K F H2 d (.ref x) → k d → Q .non H2
section
variable {M : Md} {O : List Addr} {r : List Sl} {k : D → Prop} {tl : TA} {te : TE} {Ex : XK}
theorem e_fld {cs : List Addr} {f : Str} (hc : ∀ C ∈ cs, Cls M.K C ∧ NoAttr M.K C f) (h : Dv M te O r fun d => W.fld cs f d k) : De M (tFld M.K te f) O r k := fun σ H Q R z => by
  refine h σ H _ R fun v H1 d R1 e1 p1 ⟨C, ns, ds, x, hC, e, hl, q⟩ => ?_
  subst e
  obtain ⟨a, dx, vs, rfl, n1, n2, h1, h2, h3, h4⟩ := p1.s.rep fun xs e => nomatch e
  obtain ⟨u, l1, l2⟩ := zip_lookup h4 hl
  exact ⟨a, C, dx, ns.zip vs, u, rfl, h1, (hc C hC).1, (hc C hC).2, l1, z u H1 x R1 e1 l2 q⟩
theorem post_call {w : List D → (D → Prop) → Prop} {σ : L2.St} {H0 H : Hp} {Q : VK} {ds : List D} {vs : List V} {E : XK} (R : Rp M O r σ H) (e1 : Sm M.F0 H0 H) (p : RepL M.K (nf M O) H ds vs) (q : w ds k)
    (z : ∀ v H' d, Rp M O r σ H' → Sm M.F0 H0 H' → Rep M.K (nf M O) H' d v → k d → Q v H') : SpP0 M.K w vs H Q E :=
  ⟨(), ds, nf M O, k, p, fun a x => x.elim, nf_tr R, trivial, q, fun v H2 d s i p po => z v H2 d (R.grow s) (e1.trans (sm_0 s)) p po⟩
/-- o.m(..) -/
theorem e_meth {C : Addr} {m : Str} {w : List D → (D → Prop) → Prop} (h : De M te O r fun x => W.obj [C] m x (DA M tl O r fun ds => w (x :: ds) k)) : De M (tMeth C m (SpP0 M.K w) [] Ex te tl) O r k := fun σ H Q R z => by
  refine h σ H _ R fun v H1 x R1 e1 p1 ⟨C', ns, ds, hC, e, hn, hq⟩ => ?_
  obtain rfl := List.mem_singleton.mp hC
  subst e
  obtain ⟨a, dx, vs, e, n1, n2, h1, h2, h3, h4⟩ := p1
  subst e
  refine ⟨a, dx, ns.zip vs, rfl, h1, zip_none hn, hq σ H1 _ R1 fun us H2 ys R2 e2 p2 q => ?_⟩
  rw [List.append_nil]
  exact post_call (ds := .ins C' ns ds :: ys) R2 (e1.trans e2) ⟨_, us, rfl, (show Rep M.K (nf M O) H1 (.ins C' ns ds) (.ref a) from ⟨a, dx, vs, rfl, n1, n2, h1, h2, h3, h4⟩).step e2, p2⟩ q z
/-- o.p, p a property -/
theorem e_prop {C : Addr} {m : Str} {w : List D → (D → Prop) → Prop} (h : De M te O r fun x => W.obj [C] m x (w [x] k)) : De M (tProp C (SpP0 M.K w) [] Ex te) O r k := fun σ H Q R z => by
  refine h σ H _ R fun v H1 x R1 e1 p1 ⟨C', ns, ds, hC, e, hn, hq⟩ => ?_
  obtain rfl := List.mem_singleton.mp hC
  subst e
  obtain ⟨a, dx, vs, e, n1, n2, h1, h2, h3, h4⟩ := p1
  subst e
  exact ⟨a, dx, ns.zip vs, rfl, h1, post_call (ds := [.ins C' ns ds]) R1 e1 ⟨_, [], rfl, ⟨a, dx, vs, rfl, n1, n2, h1, h2, h3, h4⟩, rfl⟩ hq z⟩
/-- C(..) -/
theorem e_make {C : Addr} {w : List D → (D → Prop) → Prop} (h : DA M tl O r fun ds => w ds k) : De M (tMake C (SpI M.K C w) [] Ex tl) O r k := fun σ H Q R z => by
  refine h σ H _ R fun vs H1 ds R1 e1 p1 q => fun x dx hx hd ne => ?_
  rw [List.append_nil]
  exact ⟨x, dx, vs, ds, nf M O, k, H1, rfl, hx, hd, ne, rfl, p1, nf_tr R1, q, fun H2 d s p po => ⟨rfl, z (.ref x) H2 d (R1.grow s) (e1.trans (sm_0 s)) p po⟩⟩
end
/-! ### the body of an __init__ -/
/-- forbidden while x is made -/
def fx (F : No) (x dx : Addr) : No := fun a => F a ∨ a = x ∨ a = dx
structure RI (K : PySem.W.Frag) (F : No) (H1 : Hp) (x dx C : Addr) (ns : List Str) (ds : List D) (r : List Sl) (σ : L2.St) (H : Hp) : Prop where
  free : H1 x = none ∧ H1 dx = none ∧ dx ≠ x
  trk : ∀ a, F a → H1 a ≠ none
  up : Sm (fun _ => False) H1 H
  at_ : ∃ vs, H x = some (.ins C dx (ns.zip vs)) ∧ ns.length = ds.length ∧ RepL K (fx F x dx) H ds vs
  own : H dx = some (.own x)
  slots : ∃ f0 tr, Rp (mdOf K pure0 () H (fx F x dx) f0 tr) [] r σ H
def DIn (K : PySem.W.Frag) (C : Addr) (ts : TS) (ns : List Str) (ds : List D) (r : List Sl) (E : List Str → List D → List Sl → Prop) : Prop :=
  ∀ (F : No) (H1 : Hp) (x dx : Addr) (σ : L2.St) (H : Hp) (Z : Ends), r[0]? = some (.d (.ref x)) → RI K F H1 x dx C ns ds r σ H →
    (∀ ns' ds' r' σ' H', RI K F H1 x dx C ns' ds' r' σ' H' → E ns' ds' r' → Z.nx σ' H') → ts Z σ H
section
variable {K : PySem.W.Frag} {C : Addr} {ns : List Str} {ds : List D} {r : List Sl} {E : List Str → List D → List Sl → Prop}
theorem ini_end (h : E ns ds r) : DIn K C tNext ns ds r E := fun F H1 x dx σ H Z h0 R z => z ns ds r σ H R h
theorem fx_trk {F : No} {H1 H : Hp} {x dx : Addr} (t : ∀ a, F a → H1 a ≠ none) (up : Sm (fun _ => False) H1 H) (hx : H x ≠ none) (hd : H dx ≠ none) : ∀ a, fx F x dx a → H a ≠ none := fun a h => by
  rcases h with h | rfl | rfl
  · cases e : H1 a with
    | none => exact absurd e (t a h)
    | some o =>
      rw [up a o (fun z => z) e]
      exact fun z => nomatch z
  · exact hx
  · exact hd
/-- slots seen from another heap -/
theorem rebase {F : No} {H H' : Hp} {r : List Sl} {σ : L2.St} {f0 tr} (R : Rp (mdOf K pure0 () H F f0 tr) [] r σ H') (H2 : Hp) (e : Sm F H' H2) (tr2 : ∀ a, F a → H2 a ≠ none) : Rp (mdOf K pure0 () H2 F f0 tr2) [] r σ H2 := by
  refine ⟨Sm.refl, trivial, (fun _ h => nomatch h), List.nodup_nil, R.len, fun j s hs => ?_, R.one⟩
  have q := R.slot j s hs
  cases s with
  | un => trivial
  | d y =>
    obtain ⟨u, e1, h1⟩ := q
    exact ⟨u, e1, h1.mono fun a o n z => e a o (fun f => n (.inl f)) z⟩
  | mu p xs => exact nomatch q.2.1
/-- self.f = e -/
theorem ini_fld {tv : TE} {ts : TS} {f : Str} (hC : Cls K C) (hN : NoAttr K C f) (hn : ns.contains f = false) (hl : ns.length < 1000)
    (h : ∀ (H : Hp) (F : No) f0 tr, De (mdOf K pure0 () H F f0 tr) tv [] r fun y => DIn K C ts (ns ++ [f]) (ds ++ [y]) r E) : DIn K C (tSeq (sFld K (tVar 0) tv f) ts) ns ds r E := fun F H1 x dx σ H Z h0 R z => by
  obtain ⟨f0, tr, R0⟩ := R.slots
  show tv σ H _
  refine h H (fx F x dx) f0 tr σ H _ R0 fun v H' y R' e' p' q => ?_
  obtain ⟨u, s1, s2⟩ := R'.slot 0 _ h0
  obtain rfl := (show u = .ref x from s2)
  refine ⟨.ref x, s1, ?_⟩
  obtain ⟨vs, a1, a2, a3⟩ := R.at_
  have a1' : H' x = some (.ins C dx (ns.zip vs)) := e' x _ (fun z => z) a1
  have lv : ns.length = vs.length := by rw [a2, a3.length]
  refine ⟨x, C, dx, ns.zip vs, rfl, a1', hC, hN, by rw [List.length_zip]; omega, ?_⟩
  rw [zip_put lv hn]
  have up : Sm (fx F x dx) H' (upd H' x (.ins C dx ((ns ++ [f]).zip (vs ++ [v])))) := fun a o n e => by
    rw [upd_ne fun e1 => n (.inr (.inl e1))]
    exact e
  have up1 : Sm (fun _ => False) H1 (upd H' x (.ins C dx ((ns ++ [f]).zip (vs ++ [v])))) := fun a o n e => by
    rw [upd_ne (ne_of_none e R.free.1)]
    exact e' a o n (R.up a o n e)
  have od : (upd H' x (.ins C dx ((ns ++ [f]).zip (vs ++ [v])))) dx = some (.own x) := by
    rw [upd_ne R.free.2.2]
    exact e' dx _ (fun z => z) R.own
  refine q F H1 x dx σ _ Z h0 ⟨R.free, R.trk, up1, ⟨vs ++ [v], upd_same, by simp [a2], ?_⟩, od, ⟨f0, _, rebase R' _ up (fx_trk R.trk up1 (by rw [upd_same]; exact fun z => nomatch z) (by rw [od]; exact fun z => nomatch z))⟩⟩ z
  exact repL_snoc ((a3.mono fun a o n e => e' a o (fun z => z) e).mono up) ((show Rep K (nf (mdOf K pure0 () H (fx F x dx) f0 tr) []) H' y v from p').less (M := fx F x dx) (fun a z => .inl z) |>.mono up)
/-- a statement ahead of the others -/
theorem ini_st {t ts : TS} (h : ∀ (H : Hp) (F : No) f0 tr, DS (mdOf K pure0 () H F f0 tr) t [] r { nx := fun O r' => O = [] ∧ r'[0]? = r[0]? ∧ DIn K C ts ns ds r' E, rt := fun _ => False }) : DIn K C (tSeq t ts) ns ds r E := fun F H1 x dx σ H Z h0 R z => by
  obtain ⟨f0, tr, R0⟩ := R.slots
  refine h H (fx F x dx) f0 tr σ H _ R0 ⟨fun O1 r1 σ1 H2 R1 a ⟨e1, e2, q⟩ => ?_, fun v H2 d s1 i1 p1 q => q.elim, fun O1 r1 σ1 H2 R1 a q => q.elim, fun O1 r1 σ1 H2 R1 a q => q.elim⟩
  subst e1
  have s : Sm (fun _ => False) H H2 := fun a o n e => R1.sm a o (fun z => z) e
  obtain ⟨vs, a1, a2, a3⟩ := R.at_
  have up1 := R.up.trans s
  have x1 := s x _ (fun z => z) a1
  have d1 := s dx _ (fun z => z) R.own
  exact q F H1 x dx σ1 H2 Z (by rw [e2]; exact h0) ⟨R.free, R.trk, up1, ⟨vs, x1, a2, a3.mono fun a o n e => s a o (fun z => z) e⟩, d1, ⟨f0, _, rebase R1 H2 .refl (fx_trk R.trk up1 (by rw [x1]; exact fun z => nomatch z) (by rw [d1]; exact fun z => nomatch z))⟩⟩ z
end
section
variable {P : Program} {w : World} {K : PySem.W.Frag} {mg : Str → Option Value} {base : Heap}
/-- an __init__ by its body -/
theorem fn_init {x qual : Str} {st : Stmt} {f C : Addr} {fd : FuncData} {N ps : List Str} {k : Nat} {W : List D → (D → Prop) → Prop} (F : Fun K x qual st f fd) (T : FnScope N ps (defScope st))
    (len : ∀ ds k, W ds k → ds.length + 1 = ps.length)
    (body : ∀ (cdv : Value) (A : Around) (outer : List Env) (s : Shared) (H : Hp) (E : XK) (self : Addr) (ds : List D) (kr : D → Prop), Room k (A.deeper (envOfC qual (defScope st) s.heap.objs.size f cdv)) → W ds kr →
      ∃ t, PSs (cxOf CX0 P w K mg base N qual (defScope st) f cdv A outer s H E).nox (defBody st) t ∧ DIn K C t [] [] (startR N.length (.ref self :: ds)) (fun ns fs _ => kr (.ins C ns fs))) : FnOk P w K mg base CX0 (k + 1) f fd ps (SpI K C W) := by
  refine F.ok T (fun vs H Q E h => ?_) (fun cdv A outer s H vs Q E hr h => ?_)
  · obtain ⟨x, dx, us, ds, F1, kr, H1, rfl, _, _, _, _, p, _, q, _⟩ := h
    rw [List.length_cons, ← p.length, len ds kr q]
  · obtain ⟨x, dx, us, ds, F1, kr, H1, rfl, hx, hd, ne, rfl, p, tr1, q, z⟩ := h
    obtain ⟨t, ht, hb⟩ := body cdv A outer s _ E x ds kr hr q
    refine ⟨t, ht, ?_⟩
    have xs : (upd (upd H1 dx (.own x)) x (.ins C dx [])) x = some (.ins C dx []) := upd_same
    have dxs : (upd (upd H1 dx (.own x)) x (.ins C dx [])) dx = some (.own x) := by
      rw [upd_ne ne, upd_same]
    have up : Sm (fun _ => False) H1 (upd (upd H1 dx (.own x)) x (.ins C dx [])) := fun a o n e => by
      rw [upd_ne (ne_of_none e hx), upd_ne (ne_of_none e hd)]
      exact e
    have tr2 := fx_trk tr1 up (by rw [xs]; exact fun z => nomatch z) (by rw [dxs]; exact fun z => nomatch z)
    have pf : RepL K (fx F1 x dx) (upd (upd H1 dx (.own x)) x (.ins C dx [])) ds us := by
      refine RepL.mono (up.wide fun _ z => z.elim) (p.gen fun a h => ?_)
      rcases h with h | rfl | rfl
      · exact .inl h
      · exact .inr hx
      · exact .inr hd
    refine hb F1 H1 x dx _ _ _ rfl ⟨⟨hx, hd, ne⟩, tr1, up, ⟨[], xs, rfl, rfl⟩, dxs, ⟨fun _ z => z.elim, tr2, start_rp (M := mdOf K pure0 () _ (fx F1 x dx) (fun _ z => z.elim) tr2) (N := N) (ds := .ref x :: ds) ⟨.ref x, us, rfl, rfl, pf⟩ trivial⟩⟩ fun ns' ds' r' σ' H' R' q' => ?_
    obtain ⟨vs, a1, a2, a3⟩ := R'.at_
    exact z H' (.ins C ns' ds') R'.up ⟨x, dx, vs, rfl, fun f => tr1 x f hx, fun f => tr1 dx f hd, a1, R'.own, a2, a3.less fun a f => .inl f⟩ q'
end
end Dw

/-! Wp8: own operators: ==, bool, repr, calls of objects. -/
namespace Dw
open PySem PySem.Spec PyProof.Rows L2
theorem keeper_inst {M : Model} {A : Around} {E : Value → Shared → Prop} {s : Shared} {x C dx : Addr} (h : s.heap.get? x = some (PySem.W.instObj C dx)) {Q : Keeper → Shared → Prop} (q : Q .caller s) : wpAny M A (keeperOf (.ref x)) Q E s :=
  wpAny_bind (wpAny_load h (wpAny_pure q))
theorem callWith_inst {M : Model} {A : Around} {E : Value → Shared → Prop} {s : Shared} {pos : Pos} {x : Addr} {first : List Value} {Q : Value → Shared → Prop} {args : List (Bool × Sem Value)} (hs : args.any (·.1) = false)
    (h : wpAny M A (evalArgs (.ref x) true args []) (fun a s1 => (∃ C dx, s1.heap.get? x = some (PySem.W.instObj C dx)) ∧ wpAny M A (call (.ref x) (first ++ a.pos) a.kw) Q E s1) E s) : wpAny M A (callWith pos (.ref x) first args []) Q E s := by
  unfold callWith
  refine wpAny_bind (wpAny_holding (thn h fun a s1 ⟨⟨C, dx, e⟩, q⟩ => ?_))
  refine wpAny_bind (wpAny_standAt ?_)
  refine wpAny_bind (keeper_inst e ?_)
  simp only [hs, List.any_nil, Bool.or_false]
  refine wpAny_bind (wpAny_operate' ?_)
  refine thn q fun r s2 hr => ?_
  refine wpAny_bind (wpAny_holding (wpAny_point ?_))
  exact wpAny_pure hr
theorem evalArgs_plain {M : Model} {A : Around} {E : Value → Shared → Prop} {s : Shared} {f : Value} {m : Sem Value} {rest : List (Bool × Sem Value)} {Q : Args → Shared → Prop}
    (h : wpAny M A (spliced ((false, m) :: rest)) (fun vs s1 => Q ⟨vs, []⟩ s1) E s) : wpAny M A (evalArgs f true ((false, m) :: rest) []) Q E s := by
  unfold evalArgs
  refine wpAny_bind (thn h fun vs s1 q => ?_)
  refine wpAny_bind (wpAny_pure ?_)
  refine wpAny_holding ?_
  simp only [List.all_nil, if_true]
  refine wpAny_bind ?_
  show wpAny M A (pure []) _ E s1
  refine wpAny_pure ?_
  refine wpAny_bind ?_
  exact wpAny_pure (wpAny_pure (by simpa using q))
section
variable {X : Cx} {k : Nat} {f C : Addr} {fd : FuncData} {ps : List Str} {sp : Sp} {E : XK}
theorem run_at {A : Around} {pins : List (Addr × Obj)} {σ : L2.St} {H : Hp} {s : Shared} {Q : VK} {us : List Value} {vs : List V} (F : FnOk X.prog X.w X.K X.mg X.base CX0 k f fd ps sp) (hr : Room k A)
    (e0 : Env0 X.prog X.w X.K X.mg X.base A X.stack s H) (hb : Binds X.K fd ps [])
    (I : Inv X pins σ H s) (r : Vals vs us) (h : sp vs H Q E) : wpAny (model X.prog X.w) A (call (.ref f) us) (EP X pins σ Q) X.xe s := by
  have hl : us.length = ps.length := by rw [← r.length]; exact F.len _ _ _ _ h
  have bb := hb s us I.kIn (by rw [List.append_nil]; exact hl)
  rw [List.append_nil] at bb
  refine wpAny_call (codeAny_mono (F.run A X.stack s H ⟨us, []⟩ us vs Q E hr e0 bb r h) fun r s' hq => ?_)
  match r, hq with
  | .ok (.ret u), hq => exact I.after hq
  | .ok .next, hq => exact False.elim hq
  | .ok .brk, hq => exact False.elim hq
  | .ok .cont, hq => exact False.elim hq
  | .error e, hq => exact False.elim hq
theorem inst_at {pins : List (Addr × Obj)} {σ : L2.St} {H : Hp} {s : Shared} {a dx : Addr} {fs : List (Str × V)} (I : Inv X pins σ H s) (h : H a = some (.ins C dx fs)) : ∃ od, PySem.W.InstAt s.heap a (PySem.W.instObj C dx) C (some od) := by
  obtain ⟨mA, o, _⟩ := ins_get I.hok h
  obtain ⟨od, es, ep, e, _⟩ := o.ns
  exact ⟨od, o.obj, rfl, rfl, e⟩
/-- x == y by x's own __eq__, y an object of a class D that does not go first -/
def rEqO (K : PySem.W.Frag) (C D : Addr) (sp : Sp) (E : XK) : R2 := fun x y H Q => ∃ a dx fs b dy gs, x = .ref a ∧ H a = some (.ins C dx fs) ∧ y = .ref b ∧ H b = some (.ins D dy gs) ∧ sp [x, y] H Q E
theorem cmp_back {pins : List (Addr × Obj)} {σ : L2.St} {Q : VK} {v : Value} {s : Shared} (h : EP X pins σ Q v s) : PySem.W.CmpBack (EP X pins σ Q) v s := by
  obtain ⟨x, H, I, r, q⟩ := h
  cases x <;> first
    | (cases v <;> first | exact ⟨_, H, I, r, q⟩ | exact (nomatch r) | exact r.elim)
theorem op_eqO {D : Addr} (F : FnOk X.prog X.w X.K X.mg X.base CX0 k f fd ps sp) (hr : Room k X.A) (hb : Binds X.K fd ps []) (nf : PySem.W.notFirst X.K C (.ref D) = true) (at_ : PySem.W.findIn X.K (.ref C) "__eq__" = some (some (.ref f))) (fn : PySem.W.isFn X.K (.ref f) = true) :
    OpR X (compareOp .Eq) (rEqO X.K C D sp E) := by
  intro pins s σ H x y v u Q I rx ry h
  obtain ⟨a, dx, fs, b, dy, gs, rfl, h1, rfl, h2, h3⟩ := h
  obtain rfl : v = .ref a := rx
  obtain rfl : u = .ref b := ry
  obtain ⟨od, i1⟩ := inst_at I h1
  obtain ⟨oe, i2⟩ := inst_at I h2
  obtain ⟨m, fr⟩ := I.fr
  show wpAny _ _ (richCompare .Eq (.ref a) (.ref b)) _ _ _
  exact PySem.W.cmp_K hr.units0 fr I.ok.mod.kin i1 i2.type nf at_ fn (thn (run_at F hr I.env0 hb I (vs := [.ref a, .ref b]) (.cons rfl (.cons rfl .nil)) h3) fun v s h => cmp_back h)
theorem run_code {A : Around} {pins : List (Addr × Obj)} {σ : L2.St} {H : Hp} {s : Shared} {Q : VK} {us : List Value} {vs : List V} (F : FnOk X.prog X.w X.K X.mg X.base CX0 k f fd ps sp) (hr : Room k A)
    (e0 : Env0 X.prog X.w X.K X.mg X.base A X.stack s H) (hb : Binds X.K fd ps [])
    (I : Inv X pins σ H s) (r : Vals vs us) (h : sp vs H Q E) : codeAny (model X.prog X.w) A (.call (.ref f) ⟨us, []⟩) (fun r s' => match r with | .ok (.ret u) => EP X pins σ Q u s' | .ok a => False | .error e => X.xe e s') s := by
  have hl : us.length = ps.length := by rw [← r.length]; exact F.len _ _ _ _ h
  have bb := hb s us I.kIn (by rw [List.append_nil]; exact hl)
  rw [List.append_nil] at bb
  refine codeAny_mono (F.run A X.stack s H ⟨us, []⟩ us vs Q E hr e0 bb r h) fun r s' hq => ?_
  match r, hq with
  | .ok (.ret u), hq => exact I.after hq
  | .ok .next, hq => exact False.elim hq
  | .ok .brk, hq => exact False.elim hq
  | .ok .cont, hq => exact False.elim hq
  | .error e, hq => exact False.elim hq
/-- repr(x) by x's own __repr__ -/
def rRepO (C : Addr) (sp : Sp) (E : XK) : List V → Hp → VK → Prop := fun xs H Q => ∃ a dx fs, xs = [.ref a] ∧ H a = some (.ins C dx fs) ∧ sp [.ref a] H (fun v H2 => ∃ t, v = .str t ∧ Q v H2) E
theorem cr_reprO (F : FnOk X.prog X.w X.K X.mg X.base CX0 k f fd ps sp) (hr : Room (k + 1) X.A) (hb : Binds X.K fd ps []) (at_ : PySem.W.findIn X.K (.ref C) "__repr__" = some (some (.ref f))) (fn : PySem.W.isFn X.K (.ref f) = true) :
    CallR X (.builtin "repr") (rRepO C sp E) := by
  intro pins s σ H xs us Q I r h
  obtain ⟨a, dx, fs, rfl, h1, h2⟩ := h
  rw [Vals.ref1 r]
  obtain ⟨od, i1⟩ := inst_at I h1
  obtain ⟨m, fr⟩ := I.fr
  refine PySem.W.repr_K hr.in1.units0 fr I.ok.mod.kin i1 at_ fn (thn (run_at F hr.in1 I.env0.in1 hb I (vs := [.ref a]) (.cons rfl .nil) h2) fun v s ⟨x, H2, I2, rv, t, e, q⟩ => ?_)
  subst e
  obtain ⟨tk, rfl⟩ := rv
  exact ⟨.str t, H2, I2, ⟨tk, rfl⟩, q⟩
/-- truth of x by its own __bool__ -/
def rBoolO (C : Addr) (sp : Sp) (E : XK) : V → Hp → (Bool → Hp → Prop) → Prop := fun x H Q => ∃ a dx fs, x = .ref a ∧ H a = some (.ins C dx fs) ∧ sp [x] H (fun v H2 => ∃ b, v = .bl b ∧ Q b H2) E
theorem tru_bool (A : Around) (F : FnOk X.prog X.w X.K X.mg X.base CX0 k f fd ps sp) (hr : Room k A) (hb : Binds X.K fd ps []) (at_ : PySem.W.findIn X.K (.ref C) "__bool__" = some (some (.ref f))) (fn : PySem.W.isFn X.K (.ref f) = true)
    {pins : List (Addr × Obj)} {σ : L2.St} {H : Hp} {s : Shared} {x : V} {v : Value} {Q : Bool → Hp → Prop} (I : Inv X pins σ H s) (e0 : Env0 X.prog X.w X.K X.mg X.base A X.stack s H) (rx : RelV x v) (h : rBoolO C sp E x H Q) : wpAny (model X.prog X.w) A (truthy v) (TP X pins σ Q) X.xe s := by
  obtain ⟨a, dx, fs, rfl, h1, h2⟩ := h
  obtain rfl : v = .ref a := rx
  obtain ⟨od, i1⟩ := inst_at I h1
  obtain ⟨m, fr⟩ := I.fr
  refine PySem.W.truthy_K fr I.ok.mod.kin i1 at_ fn (thn (run_at F hr e0 hb I (vs := [.ref a]) (.cons rfl .nil) h2) fun v s ⟨x, H2, I2, rv, b, e, q⟩ => ?_)
  subst e
  obtain rfl : v = .bool b := rv
  exact ⟨H2, I2, q⟩
/-- o(..), o a local name that holds an object with its own __call__ -/
def tCallO (C : Addr) (sp : Sp) (E : XK) (te : TE) (t : TA) : TE := fun σ H Q => te σ H fun x H1 => ∃ a, x = .ref a ∧ t σ H1 fun vs H2 => ∃ dx fs, H2 a = some (.ins C dx fs) ∧ sp (x :: vs) H2 Q E
theorem pe_callO {x : Str} {p pos : Pos} {e : Expr} {es : List Expr} {te : TE} {t : TA} (F : FnOk X.prog X.w X.K X.mg X.base CX0 k f fd ps sp) (hr : Room k X.A) (hb : Binds X.K fd ps []) (at_ : PySem.W.findIn X.K (.ref C) "__call__" = some (some (.ref f))) (fn : PySem.W.isFn X.K (.ref f) = true) (fi : PySem.W.fnIn X.K f = true)
    (hv : PE X (.Name x p) te) (ha : PA X (e :: es) t) 
    (he : starEach (e :: es) X.env = (false, eval e X.env) :: starEach es X.env := by rfl) (hpl : (backTo pos (starEach es X.env)).any (·.1) = false := by rfl) :
    PE X (.Call (.Name x p) (e :: es) [] pos) (tCallO C sp E te t) := ⟨fun pins s σ H Q I h => by
  refine PySem.wpAny_Call_Name_kw (thn (hv.run pins s σ H _ I h) fun u s1 ⟨xv, H1, I1, rx, a, hx, h1⟩ => ?_)
  subst hx
  obtain rfl : u = .ref a := rx
  show wpAny _ _ (callWith pos (.ref a) [] (backTo pos (starEach (e :: es) X.env)) []) _ _ _
  have hb2 : backTo pos (starEach (e :: es) X.env) = (false, eval e X.env) :: backTo pos (starEach es X.env) := by rw [he]; rfl
  refine callWith_inst (by rw [hb2]; exact hpl) ?_
  rw [hb2]
  refine evalArgs_plain ?_
  rw [← hb2]
  refine thn (ha.run pos pins s1 σ H1 _ I1 h1) fun us s2 ⟨vs, H2, I2, r, dx, fs, h2, q⟩ => ?_
  obtain ⟨od, i2⟩ := inst_at I2 h2
  exact ⟨⟨C, dx, i2.at_⟩, wpAny_call (PySem.W.kco_code I2.kIn i2 rfl at_ fn fi (run_code F hr I2.env0 hb I2 (vs := .ref a :: vs) (.cons rfl r) q))⟩⟩
end
end Dw

/-! Wp9: own operators over trees; binary operators, !=, bool(..), classmethods, isinstance. -/
namespace Dw
open PySem PySem.Spec PyProof.Rows L2
section
variable {X : Cx} {k : Nat} {f C : Addr} {fd : FuncData} {ps : List Str} {sp : Sp} {E : XK}
/-- x op y by x's own method, y of the same class -/
def rBinO (C : Addr) (sp : Sp) (E : XK) : R2 := fun x y H Q => ∃ a dx fs b dy gs, x = .ref a ∧ H a = some (.ins C dx fs) ∧ y = .ref b ∧ H b = some (.ins C dy gs) ∧ sp [x, y] H Q E
theorem op_binO {op : Operator} (F : FnOk X.prog X.w X.K X.mg X.base CX0 k f fd ps sp) (hr : Room k X.A) (hb : Binds X.K fd ps []) (sf : PySem.W.selfFirst X.K C = true) (at_ : PySem.W.findIn X.K (.ref C) (dunder op.info.2) = some (some (.ref f))) (fn : PySem.W.isFn X.K (.ref f) = true) :
    OpR X (binaryOp op) (rBinO C sp E) := by
  intro pins s σ H x y v u Q I rx ry h
  obtain ⟨a, dx, fs, b, dy, gs, rfl, h1, rfl, h2, h3⟩ := h
  obtain rfl : v = .ref a := rx
  obtain rfl : u = .ref b := ry
  obtain ⟨od, i1⟩ := inst_at I h1
  obtain ⟨oe, i2⟩ := inst_at I h2
  obtain ⟨m, fr⟩ := I.fr
  exact PySem.W.binop_K fr I.ok.mod.kin i1 i2.type sf at_ fn (thn (run_at F hr I.env0 hb I (vs := [.ref a, .ref b]) (.cons rfl (.cons rfl .nil)) h3) fun v s h => cmp_back h)
/-- x != y by x's own __eq__, y of the same class -/
def rNeO (C : Addr) (sp : Sp) (E : XK) : R2 := fun x y H Q => ∃ a dx fs b dy gs, x = .ref a ∧ H a = some (.ins C dx fs) ∧ y = .ref b ∧ H b = some (.ins C dy gs) ∧ sp [x, y] H (fun v H2 => ∃ t, v = .bl t ∧ Q (.bl (!t)) H2) E
theorem op_neO {B : String} {bm : List Value} (F : FnOk X.prog X.w X.K X.mg X.base CX0 k f fd ps sp) (hr : Room (k + 1) X.A) (hb : Binds X.K fd ps []) (cf : CmpFacts B bm)
    (own : ∀ (h : Heap) (a dx : Addr), X.K.In h → h.get? a = some (PySem.W.instObj C dx) → h.OwnEqNoNe a C f B bm) : OpR X (compareOp .NotEq) (rNeO C sp E) := by
  intro pins s σ H x y v u Q I rx ry h
  obtain ⟨a, dx, fs, b, dy, gs, rfl, h1, rfl, h2, h3⟩ := h
  obtain rfl : v = .ref a := rx
  obtain rfl : u = .ref b := ry
  obtain ⟨od, i1⟩ := inst_at I h1
  obtain ⟨oe, i2⟩ := inst_at I h2
  have hu := hr.units
  refine compareOp_ne_ownEq cf (own s.heap a dx I.kIn i1.at_) i2.at_ rfl (by omega) (thn (run_at F hr.in1 I.env0.in1 hb I (vs := [.ref a, .ref b]) (.cons rfl (.cons rfl .nil)) h3) fun v s ⟨x, H2, I2, rv, t, e, q⟩ => ?_)
  subst e
  obtain rfl : v = .bool t := rv
  exact ⟨t, rfl, .bl (!t), H2, I2, rfl, q⟩
theorem bool_new {X : Cx} {v : Value} {A : Around} {s : Shared} {E : Value → Shared → Prop} {R : PySem.Fin → Shared → Prop} (h : wpAny (model X.prog X.w) A (truthy v) (fun b s' => R (.done (.ret (.bool b))) s') E s) : wpAny (model X.prog X.w) A (Builtin.«bool.__new__» ⟨[.type "bool", v], []⟩) R E s := by
  unfold Builtin.«bool.__new__»
  simp only []
  refine wpAny_bind ?_
  have e1 : PySem.isType (Value.type "bool") = pure true := by rfl
  rw [e1]
  refine wpAny_pure ?_
  simp only [Bool.not_true, Bool.false_eq_true, if_false]
  refine wpAny_bind ?_
  rw [PySem.F.conv_sub_bool]
  refine wpAny_pure ?_
  simp only [Bool.not_true, Bool.false_eq_true, if_false]
  refine wpAny_bind ?_
  have e2 : someArgs "bool" 0 1 { pos := [v] } = pure [v] := by rfl
  rw [e2]
  refine wpAny_pure ?_
  refine wpAny_bind ?_
  refine thn h fun b s' q => ?_
  exact wpAny_pure q
/-- bool(x) by x's own __bool__ -/
def rBoolC (C : Addr) (sp : Sp) (E : XK) : List V → Hp → VK → Prop := fun xs H Q => ∃ x, xs = [x] ∧ rBoolO C sp E x H (fun b H2 => Q (.bl b) H2)
theorem cr_boolO (F' : FnOk X.prog X.w X.K X.mg X.base CX0 k f fd ps sp) (hr : Room (k + 2) X.A) (hb : Binds X.K fd ps []) (at_ : PySem.W.findIn X.K (.ref C) "__bool__" = some (some (.ref f))) (fn : PySem.W.isFn X.K (.ref f) = true) :
    CallR X (.type "bool") (rBoolC C sp E) := by
  intro pins s σ H xs us Q I r h
  obtain ⟨x, rfl, h1⟩ := h
  obtain ⟨v, rfl, rv⟩ := Vals.one r
  refine callType_codes (Q₁ := fun obj s1 => ∃ b H2, obj = .bool b ∧ Inv X pins σ H2 s1 ∧ Q (.bl b) H2) F.called_bool (F.typeCall_bool_1 v) F.entry_object_init ?_ ?_
  · refine codeAny_call_builtin F.called_bool.plain F.entry_bool_new ?_
    rw [F.newCall_bool_1]
    refine wpAny_pure (bool_new ?_)
    exact thn (tru_bool X.A.in1.in1 F' hr.in1.in1 hb at_ fn I I.env0.in1.in1 rv h1) fun b s' ⟨H2, I2, q⟩ => ⟨b, H2, rfl, I2, q⟩
  · rintro obj s1 ⟨b, H2, rfl, I2, q⟩
    exact ⟨rfl, F.args_object_init_2 _ _, object_init_meets (T := "bool") (newId := "bool.__new__") F.called_bool.init.lookup F.called_bool.made F.newNe_bool X.prog X.w X.A.in1 _ s1 ⟨rfl, rfl, .bl b, H2, I2, rfl, q⟩⟩
end
section
variable {M : Md} {O : List Addr} {r : List Sl} {k : D → Prop} {ta tb te : TE} {tl : TA} {Ex E : XK} {w : List D → (D → Prop) → Prop}
theorem e_eqO {C D' : Addr} (h : De M ta O r fun x => De M tb O r fun y => (∃ ns ds, x = .ins C ns ds) ∧ (∃ ms es, y = .ins D' ms es) ∧ w [x, y] k) : De M (tOp (rEqO M.K C D' (SpP0 M.K w) E) ta tb) O r k := fun σ H Q R z => by
  refine h σ H _ R fun v H1 x R1 e1 p1 h1 => h1 σ H1 _ R1 fun u H2 y R2 e2 p2 ⟨⟨ns, ds, ex⟩, ⟨ms, es, ey⟩, q⟩ => ?_
  have p1' := p1.step e2
  have c := post_call (E := E) (ds := [x, y]) R2 (e1.trans e2) ⟨v, [u], rfl, p1', u, [], rfl, p2, rfl⟩ q z
  subst ex
  subst ey
  obtain ⟨a, dx, vs, e, n1, n2, g1, g2, g3, g4⟩ := p1'
  obtain ⟨b, dy, ws, e', m1, m2, f1, f2, f3, f4⟩ := p2
  exact ⟨a, dx, ns.zip vs, b, dy, ms.zip ws, e, g1, e', f1, c⟩
theorem e_binO {C : Addr} (h : De M ta O r fun x => De M tb O r fun y => (∃ ns ds, x = .ins C ns ds) ∧ (∃ ms es, y = .ins C ms es) ∧ w [x, y] k) : De M (tOp (rBinO C (SpP0 M.K w) E) ta tb) O r k := fun σ H Q R z => by
  refine h σ H _ R fun v H1 x R1 e1 p1 h1 => h1 σ H1 _ R1 fun u H2 y R2 e2 p2 ⟨⟨ns, ds, ex⟩, ⟨ms, es, ey⟩, q⟩ => ?_
  have p1' := p1.step e2
  have c := post_call (E := E) (ds := [x, y]) R2 (e1.trans e2) ⟨v, [u], rfl, p1', u, [], rfl, p2, rfl⟩ q z
  subst ex
  subst ey
  obtain ⟨a, dx, vs, e, n1, n2, g1, g2, g3, g4⟩ := p1'
  obtain ⟨b, dy, ws, e', m1, m2, f1, f2, f3, f4⟩ := p2
  exact ⟨a, dx, ns.zip vs, b, dy, ms.zip ws, e, g1, e', f1, c⟩
theorem e_neO {C : Addr} (h : De M ta O r fun x => De M tb O r fun y => (∃ ns ds, x = .ins C ns ds) ∧ (∃ ms es, y = .ins C ms es) ∧ w [x, y] fun d => ∃ t, d = .bl t ∧ k (.bl (!t))) : De M (tOp (rNeO C (SpP0 M.K w) E) ta tb) O r k := fun σ H Q R z => by
  refine h σ H _ R fun v H1 x R1 e1 p1 h1 => h1 σ H1 _ R1 fun u H2 y R2 e2 p2 ⟨⟨ns, ds, ex⟩, ⟨ms, es, ey⟩, q⟩ => ?_
  have p1' := p1.step e2
  have c := post_call (E := E) (Q := fun v H2 => ∃ t, v = .bl t ∧ Q (.bl (!t)) H2) (ds := [x, y]) R2 (e1.trans e2) ⟨v, [u], rfl, p1', u, [], rfl, p2, rfl⟩ q (fun v H' d R' e' p' ⟨t, ed, q⟩ => by
    subst ed
    exact ⟨t, p', z _ H' (.bl (!t)) R' e' rfl q⟩)
  subst ex
  subst ey
  obtain ⟨a, dx, vs, e, n1, n2, g1, g2, g3, g4⟩ := p1'
  obtain ⟨b, dy, ws, e', m1, m2, f1, f2, f3, f4⟩ := p2
  exact ⟨a, dx, ns.zip vs, b, dy, ms.zip ws, e, g1, e', f1, c⟩
theorem e_reprO {C : Addr} (h : De M te O r fun x => (∃ ns ds, x = .ins C ns ds) ∧ w [x] fun d => ∃ t, d = .str t ∧ k (.str t)) : De M (tCB (rRepO C (SpP0 M.K w) E) (tCons te tNil)) O r k := fun σ H Q R z => by
  refine h σ H _ R fun v H1 x R1 e1 p1 ⟨⟨ns, ds, ex⟩, q⟩ => ?_
  have c := post_call (E := E) (Q := fun v H2 => ∃ t, v = .str t ∧ Q v H2) (ds := [x]) R1 e1 ⟨v, [], rfl, p1, rfl⟩ q (fun v H' d R' e' p' ⟨t, ed, q⟩ => by
    subst ed
    exact ⟨t, p', z _ H' (.str t) R' e' p' q⟩)
  subst ex
  obtain ⟨a, dx, vs, e, n1, n2, g1, g2, g3, g4⟩ := p1
  subst e
  exact ⟨a, dx, ns.zip vs, rfl, g1, c⟩
theorem e_boolC {C : Addr} (h : De M te O r fun x => (∃ ns ds, x = .ins C ns ds) ∧ w [x] fun d => ∃ t, d = .bl t ∧ k (.bl t)) : De M (tCB (rBoolC C (SpP0 M.K w) E) (tCons te tNil)) O r k := fun σ H Q R z => by
  refine h σ H _ R fun v H1 x R1 e1 p1 ⟨⟨ns, ds, ex⟩, q⟩ => ?_
  have c := post_call (E := E) (Q := fun v H2 => ∃ t, v = .bl t ∧ Q v H2) (ds := [x]) R1 e1 ⟨v, [], rfl, p1, rfl⟩ q (fun v H' d R' e' p' ⟨t, ed, q⟩ => by
    subst ed
    exact ⟨t, p', z _ H' (.bl t) R' e' p' q⟩)
  subst ex
  obtain ⟨a, dx, vs, e, n1, n2, g1, g2, g3, g4⟩ := p1
  subst e
  obtain ⟨g, us, F, k2, q1, q2, q3, q4, q5, q6⟩ := c
  exact ⟨.ref a, rfl, a, dx, ns.zip vs, rfl, g1, g, us, F, k2, q1, q2, q3, q4, q5, fun v H2 d s i p kk => by
    obtain ⟨t, e, q⟩ := q6 v H2 d s i p kk
    subst e
    exact ⟨t, rfl, q⟩⟩
/-- o(..) -/
theorem e_callO {C : Addr} (h : De M te O r fun x => (∃ ns ds, x = .ins C ns ds) ∧ DA M tl O r fun ds => w (x :: ds) k) : De M (tCallO C (SpP0 M.K w) Ex te tl) O r k := fun σ H Q R z => by
  refine h σ H _ R fun v H1 x R1 e1 p1 ⟨⟨ns, ds, ex⟩, hq⟩ => ?_
  have p0 := p1
  subst ex
  obtain ⟨a, dx, vs, e, n1, n2, h1, h2, h3, h4⟩ := p1
  refine ⟨a, e, hq σ H1 _ R1 fun us H2 ys R2 e2 p2 q => ?_⟩
  have p3 := p0.step e2
  have c := post_call (E := Ex) (ds := .ins C ns ds :: ys) R2 (e1.trans e2) ⟨v, us, rfl, p3, p2⟩ q z
  obtain ⟨a', dx', vs', e', n1', n2', h1', h2', h3', h4'⟩ := p3
  rw [e] at e'
  cases e'
  exact ⟨dx', ns.zip vs', h1', c⟩
/-- C.m(..), m a classmethod -/
theorem e_cmeth {C : Addr} (h : De M te O r fun x => x = .ref C ∧ DA M tl O r fun ds => w (.ref C :: ds) k) : De M (ClX.tCMeth C (SpP0 M.K w) Ex te tl) O r k := fun σ H Q R z => by
  refine h σ H _ R fun v H1 x R1 e1 p1 ⟨ex, hq⟩ => ?_
  subst ex
  exact ⟨p1, hq σ H1 _ R1 fun us H2 ys R2 e2 p2 q => post_call (ds := .ref C :: ys) R2 (e1.trans e2) ⟨.ref C, us, rfl, rfl, p2⟩ q z⟩
end
end Dw

/-! ### sorted(x, key=len), x a list of tuples -/
namespace Dw
open PySem PySem.Spec PyProof.Rows L2
open PySem.W (EachIs AllAlike Sortable dataLe dataLt alike KeyPure)
/-- by length, else as they stand -/
def lenLeV (b c : V × Nat) : Bool := dataLe false (fun b : V × Nat => PyData.int (b.2 : Int)) b c
def qSorted (K : PySem.W.Frag) (Q : VK) (v : V) (H1 : Hp) : Prop := ∃ (a : Addr) (bs : List (V × Nat)), v = .ref a ∧ SqL K H1 a (bs.map (·.1)) ∧ (∀ b ∈ bs, ∃ t zs, b.1 = .ref t ∧ SqT K H1 t zs ∧ zs.length = b.2) ∧
  ∀ p, H1 p = none → Q (.ref p) (upd H1 p (.lst ((bs.mergeSort (dataLe false fun b : V × Nat => PyData.int (b.2 : Int))).map (·.1))))
def tSortedLen (K : PySem.W.Frag) (te : TE) : TE := fun σ H Q => te σ H fun v H1 => qSorted K Q v H1
theorem each_pairs : ∀ {bs : List (V × Nat)} {its : List Value}, Vals (bs.map (·.1)) its → EachIs (fun v (b : V × Nat) => RelV b.1 v) its bs
  | [], _, r => by
    cases r
    exact .nil
  | b :: bs, _, r => by
    cases r with
    | cons r1 r2 => exact .cons r1 (each_pairs r2)
theorem pairs_vals : ∀ {bs : List (V × Nat)} {its : List Value}, EachIs (fun v (b : V × Nat) => RelV b.1 v) its bs → Vals (bs.map (·.1)) its
  | _, _, .nil => .nil
  | _, _, .cons h t => .cons h (pairs_vals t)
theorem istup_up {h h' : Heap} {t : Addr} {a : Array Value} (p : IsTup h t a) (k : ∀ b o, h.get? b = some o → h'.get? b = some o) : IsTup h' t a := by
  obtain ⟨o, e, r⟩ := p
  exact ⟨o, k t o e, r⟩
theorem ints_alike (bs : List (V × Nat)) : AllAlike (bs.map fun b : V × Nat => PyData.int (b.2 : Int)) := fun d hd d' hd' => by
  obtain ⟨b, _, rfl⟩ := List.mem_map.mp hd
  obtain ⟨c, _, rfl⟩ := List.mem_map.mp hd'
  rfl
theorem ints_sortable (bs : List (V × Nat)) : Sortable (bs.map fun b : V × Nat => PyData.int (b.2 : Int)) := .inr fun d hd => by
  obtain ⟨b, _, rfl⟩ := List.mem_map.mp hd
  exact ⟨(fun z => nomatch z), (fun xs z => nomatch z)⟩
theorem qs_one {K : PySem.W.Frag} {Q : VK} {vs : List V} {H1 : Hp} (h : match vs with | [v] => qSorted K Q v H1 | _ => False) : ∃ (a : Addr) (bs : List (V × Nat)), vs = [.ref a] ∧ SqL K H1 a (bs.map (·.1)) ∧ (∀ b ∈ bs, ∃ t zs, b.1 = .ref t ∧ SqT K H1 t zs ∧ zs.length = b.2) ∧
  ∀ p, H1 p = none → Q (.ref p) (upd H1 p (.lst ((bs.mergeSort (dataLe false fun b : V × Nat => PyData.int (b.2 : Int))).map (·.1)))) := by
  split at h
  · obtain ⟨a, bs, rfl, h⟩ := h
    exact ⟨a, bs, rfl, h⟩
  · exact h.elim
theorem pe_sortedLen {X : Cx} {e : Expr} {te : TE} {p p2 pos kpos : Pos} (hu : X.A.units + 64 < cLine) (hg : Gl X "sorted") (hm : X.mg "sorted" = none) (hg2 : Gl X "len") (hm2 : X.mg "len" = none) (he : PE X e te)
    (hs0 : starEach [e] X.env = (false, eval e X.env) :: starEach [] X.env := by rfl) (hpl : (backTo pos (starEach [e] X.env)).any (·.1) = false := by rfl)
    (hall : (backToKw pos (keywordEach [⟨some "key", .Name "len" p2, kpos⟩] X.env)).all (·.1.isSome) = true := by rfl) (hnone : (backToKw pos (keywordEach [⟨some "key", .Name "len" p2, kpos⟩] X.env)).any (·.1.isNone) = false := by rfl)
    (hks : (backToKw pos (keywordEach [⟨some "key", .Name "len" p2, kpos⟩] X.env)).filterMap (·.1) = [Str.ofString "key"] := by rfl) :
    PE X (.Call (.Name "sorted" p) [e] [⟨some "key", .Name "len" p2, kpos⟩] pos) (tSortedLen X.K te) := by
  refine ⟨fun pins s σ H Q I h => ?_⟩
  refine PySem.wpAny_Call_Name_kw (ld_blt I hg hm (by decide +kernel : bootBuiltins "sorted" = some (.builtin "sorted")) ?_ (by decide) (by decide))
  refine PyProof.Rows.callWith_kw (thn ((pa_cons (hs := hs0) he pa_nil).run pos pins s σ H (fun vs H1 => match vs with | [v] => qSorted X.K Q v H1 | _ => False) I h) fun us s1 ⟨vs, H1, I1, r1, hq⟩ => ?_) (by rw [hs0]; rfl) hpl hall hnone
  · obtain ⟨a, bs, rfl, hl, ht, q⟩ := qs_one hq
    rw [Vals.ref1 r1]
    refine PyProof.Rows.kwAll_cons (ld_blt I1 hg2 hm2 (by decide +kernel : bootBuiltins "len" = some (.builtin "len")) (PyProof.Rows.kwAll_nil ?_) (by decide) (by decide))
    rw [hks]
    show wpAny _ _ (call (.builtin "sorted") [.ref a] [(Str.ofString "key", .builtin "len")]) _ _ s1
    obtain ⟨its, rv, il, hz⟩ := I1.list hl
    have hzb : bs.length ≤ sizeLine := by
      rw [List.length_map] at hz
      exact hz
    refine PySem.W.sorted_key_data (bs := bs) (f := .builtin "len") (b := false) (fun b : V × Nat => PyData.int (b.2 : Int)) il.isList (each_pairs rv) (ints_alike bs) (ints_sortable bs) hzb (fun b hb => ?_) (ksk_s1 _ _) (fun x => ksk_l1 _ _) (fun x => ksk_t4 "len" x) (fun v b hv hb h tk up => ?_) fun out c h' tk up fr at_ ol eo => ?_
    · show _ + 2 + 0 < _
      omega
    · obtain ⟨t, zs, e1, e2, e3⟩ := ht b hb
      rw [e1] at hv
      obtain rfl : v = .ref t := hv
      obtain ⟨js, rj, it, hj⟩ := I1.tuple e2
      have hlen : js.toArray.size = b.2 := by rw [List.size_toArray, ← rj.length, e3]
      refine PyProof.Rows.len_tuple (istup_up it up) ?_ ?_
      · rw [hlen, ← e3]
        have : sizeLine < 2 ^ 63 := by decide +kernel
        omega
      · rw [hlen]
        exact ⟨h, _, rfl, fun _ _ z => z, .int _ _⟩
    · have hv := pairs_vals eo
      exact ⟨.ref _, upd H1 (s1.heap.objs.size + 1) (.lst _), I1.laid up (Nat.le_succ _) ⟨by rw [List.length_map, List.length_mergeSort]; exact hzb, out, c, hv, at_⟩, rfl, q _ (I1.hok.fresh (Nat.le_succ _))⟩
/-- a tuple's length -/
def D.tlen : D → Nat
  | .tup ts => ts.length
  | _ => 0
def sortL (xs : List D) : List D := xs.mergeSort (dataLe false fun d : D => PyData.int (d.tlen : Int))
def W.sortedLen (d : D) (k : D → Prop) : Prop := ∃ xs, d = .lst xs ∧ (∀ x ∈ xs, ∃ ts, x = .tup ts) ∧ k (.lst (sortL xs))
theorem len_each {K : PySem.W.Frag} {N : No} {H : Hp} : ∀ {xs : List D} {us : List V}, RepL K N H xs us → EachIs (fun (b : V × Nat) (d : D) => Rep K N H d b.1 ∧ b.2 = d.tlen) (us.zip (xs.map D.tlen)) xs
  | [], us, h => by
    obtain rfl := (show us = [] from h)
    exact .nil
  | x :: xs, _, ⟨v, r, e, h1, h2⟩ => by
    subst e
    exact .cons ⟨h1, rfl⟩ (len_each h2)
theorem each_len {K : PySem.W.Frag} {N : No} {H : Hp} : ∀ {bs : List (V × Nat)} {xs : List D}, EachIs (fun (b : V × Nat) (d : D) => Rep K N H d b.1 ∧ b.2 = d.tlen) bs xs → RepL K N H xs (bs.map (·.1))
  | _, _, .nil => .nil
  | _, _, .cons h t => .cons h.1 (each_len t)
theorem zip_tup {K : PySem.W.Frag} {N : No} {H : Hp} : ∀ {xs : List D} {us : List V}, RepL K N H xs us → (∀ x ∈ xs, ∃ ts, x = .tup ts) → ∀ b ∈ us.zip (xs.map D.tlen), ∃ t zs, b.1 = .ref t ∧ SqT K H t zs ∧ zs.length = b.2
  | [], us, h, _, b, hb => by
    rw [List.map_nil, List.zip_nil_right] at hb
    cases hb
  | x :: xs, _, ⟨v, r, e, h1, h2⟩, ht, b, hb => by
    subst e
    rw [List.map_cons, List.zip_cons_cons] at hb
    rcases List.mem_cons.mp hb with rfl | hb
    · obtain ⟨ts, rfl⟩ := ht x List.mem_cons_self
      obtain ⟨t, zs, e, g1, g2⟩ := h1
      exact ⟨t, zs, e, g1.sq, g2.length.symm⟩
    · exact zip_tup h2 (fun y hy => ht y (List.mem_cons_of_mem _ hy)) b hb
theorem e_sortedLen {M : Md} {O : List Addr} {r : List Sl} {k : D → Prop} {te : TE} (h : Dv M te O r fun d => W.sortedLen d k) : De M (tSortedLen M.K te) O r k := fun σ H Q R z => by
  refine h σ H _ R fun v H1 d R1 e1 p1 ⟨xs, ed, ht, q⟩ => ?_
  subst ed
  obtain ⟨a, vs, ev, h1, h2⟩ := p1.s.lst
  subst ev
  have hl := h2.length
  refine ⟨a, vs.zip (xs.map D.tlen), rfl, by rw [List.map_fst_zip (by rw [List.length_map]; omega)]; exact h1, zip_tup h2 ht, fun p hp => (post_of R1 e1 z).newL (nf_tr R1) hp (each_len (PySem.W.sort_each (len_each h2) fun b hb c hc => ?_)) q⟩
  have f1 := PySem.W.EachIs.zip (len_each h2) b hb
  have f2 := PySem.W.EachIs.zip (len_each h2) c hc
  show dataLe false (fun n : Nat => PyData.int (n : Int)) b.1.2 c.1.2 = dataLe false (fun n : Nat => PyData.int (n : Int)) b.2.tlen c.2.tlen
  rw [f1.2, f2.2]
end Dw

/-! Wp10: extend, f-strings, isinstance, index, bool of lists and tuples. -/
namespace Dw
open PySem PySem.Spec PyProof.Rows L2
theorem items_of {M : Model} {A : Around} {E : Value → Shared → Prop} {s : Shared} {b : Addr} {o : Obj} {its : Array Value} {n : Nat} {Q : Array Value → Shared → Prop} (hb : s.heap.get? b = some o) (od : o.data = .seq its n) (q : Q its s) : wpAny M A (Builtin.List.listItems (.ref b)) Q E s := by
  unfold Builtin.List.listItems
  refine wpAny_bind ?_
  unfold seqItems?
  refine wpAny_bind (wpAny_load hb ?_)
  rw [od]
  exact wpAny_pure (wpAny_pure q)
theorem list_extendW {prog : Program} {w : World} {A : Around} {R : PySem.Fin → Shared → Prop} {E : Value → Shared → Prop} {s : Shared} {l b : Addr} {items items2 : Array Value} {n : Nat} {o : Obj}
    (hl : s.heap.get? l = some { cls := .type "list", data := .seq items n }) (hb : s.heap.get? b = some o) (oc : o.cls = .type "list") (n2 : Nat) (od : o.data = .seq items2 n2) (hn : Builtin.List.listTooLong (items.size + items2.size) = false)
    (hs1 : items.size ≤ sizeLine) (hs2 : (items ++ items2).size ≤ sizeLine + 1)
    (q : R (.done (.ret .none)) { s with heap := s.heap.update l (Obj.mapSeq fun x => x ++ items2) }) : wpAny (model prog w) A (Builtin.«list.extend» ⟨[.ref l, .ref b], []⟩) R E s := by
  unfold Builtin.«list.extend»
  refine wpAny_bind ?_
  have e0 : selfAndOne "list.extend" ⟨[.ref l, .ref b], []⟩ = pure (.ref l, .ref b) := by rfl
  rw [e0]
  refine wpAny_pure ?_
  show wpAny _ _ (Builtin.List.listExtendWith (.ref l) (.ref b) .none) _ _ _
  unfold Builtin.List.listExtendWith
  refine wpAny_bind (wpAny_typeOf_ref hb ?_)
  rw [oc]
  rw [if_pos (by simp)]
  refine wpAny_bind (items_of hb od ?_)
  refine wpAny_bind (items_of hl rfl ?_)
  simp only [hn, Bool.and_false, Bool.false_eq_true, if_false]
  refine wpAny_bind ?_
  refine wpAny_updateSeq hl rfl ?_ hs1 hs2
  exact wpAny_pure q

/-- own.extend(list) -/
def rExtendS (K : PySem.W.Frag) : V → List V → Hp → VK → Prop := fun x vs H Q => ∃ l b xs zs, x = .ref l ∧ vs = [.ref b] ∧ H l = some (.lst xs) ∧ SqL K H b zs ∧ xs.length + zs.length ≤ sizeLine ∧ Q .non (upd H l (.lst (xs ++ zs)))
theorem mt_extendS {X : Cx} : MtM X "list.extend" (rExtendS X.K) := by
  intro pins s σ H x vs v us Q I rx r h
  obtain ⟨l, b, xs, zs, rfl, rfl, h1, h2, hz, q⟩ := h
  obtain rfl : v = .ref l := rx
  rw [Vals.ref1 r]
  obtain ⟨hl, its, n, r1, e1, g1⟩ := I.lstM h1
  obtain ⟨its2, r2, p2, z2⟩ := I.list h2
  obtain ⟨o2, n2, e2, c2, d2, q2⟩ := p2
  have l2 := r2.length
  have sz : (its.toArray ++ its2.toArray).size ≤ sizeLine := by rw [Array.size_append, List.size_toArray, List.size_toArray]; omega
  refine wpAny_call (codeAny_call_builtin F.slot_list_extend.plain F.entry_list_extend (F.slot_list_extend.check _ _ _ s (.ref l) [.ref b] [] _ ⟨_, g1, rfl⟩ (F.args_list_extend_2 _ _) ?_))
  refine list_extendW g1 e2 c2 n2 q2 (notLongL (by rw [Array.size_append] at sz; exact sz)) (by rw [List.size_toArray]; omega) (by omega) ?_
  exact ⟨.non, _, I.lset (its' := its ++ its2) h1 g1 (by simp) (r1.append r2) (by rw [List.length_append]; exact hz), rfl, q⟩
section
variable {M : Md} {O : List Addr} {r : List Sl} {k : D → Prop} {te ta : TE} {tl : TA} {E : Kn}
theorem s_extend {i : Nat} {p : Addr} {xs : List D} {ts : TS} (h : r[i]? = some (.mu p xs)) (q : De M te O r fun d => ∃ ys, d = .lst ys ∧ xs.length + ys.length ≤ sizeLine ∧ DS M ts O (r.set i (.mu p (xs ++ ys))) E) :
    DS M (tSeq (tDrop (tBM M.K "list" (rExtendS M.K) (tVar i) (tCons te tNil))) ts) O r E := ds_seq fun σ H Z R z => by
  obtain ⟨e1, hp, vs, h1, h2⟩ := R.slot i _ h
  refine ⟨.ref p, e1, .inl ⟨rfl, vs, .inl (.inl h1)⟩, ?_⟩
  refine q σ H _ R fun v H1 d R1 e2 p1 ⟨ys, ed, hz, q1⟩ => ?_
  subst ed
  obtain ⟨b, ws, ev, g1, g2⟩ := p1
  subst ev
  obtain ⟨_, _, vs', h1', h2'⟩ := R1.slot i _ h
  refine ⟨p, b, vs', ws, rfl, rfl, h1', g1.sq, by rw [← h2'.length, ← g2.length]; exact hz, ?_⟩
  exact z.nx O _ σ _ (R1.write h (h2'.append g2)) (stp_write R1 h e2) q1
/-! f-strings -/
/-- the parts of a text, one after another -/
def Dj (M : Md) (ts : List TE) (acc : Str) (O : List Addr) (r : List Sl) (k : Str → Prop) : Prop :=
  ∀ σ H (Q : Str → Hp → Prop), Rp M O r σ H → (∀ s H', Rp M O r σ H' → Sm M.F0 H H' → k s → Q s H') → tJs ts acc σ H Q
theorem dj_nil {acc : Str} {k : Str → Prop} (h : k acc) : Dj M [] acc O r k := fun σ H Q R z => z acc H R .refl h
theorem dj_cons {t : TE} {ts : List TE} {acc : Str} {k : Str → Prop} (h : De M t O r fun d => ∃ s, d = .str s ∧ (acc ++ s).length ≤ sizeLine ∧ Dj M ts (acc ++ s) O r k) : Dj M (t :: ts) acc O r k := fun σ H Q R z => by
  refine h σ H _ R fun v H1 d R1 e1 p1 ⟨s, ed, hz, q⟩ => ?_
  subst ed
  exact ⟨s, p1, hz, q σ H1 Q R1 fun s' H2 R2 e2 q2 => z s' H2 R2 (e1.trans e2) q2⟩
theorem e_joined {ts : List TE} (h : Dj M ts Str.empty O r fun s => k (.str s)) : De M (fun σ H Q => tJs ts Str.empty σ H fun out H1 => Q (V.str out) H1) O r k := fun σ H Q R z =>
  h σ H _ R fun s H1 R1 e1 q => z (.str s) H1 (.str s) R1 e1 rfl q
/-! isinstance -/
def D.tyV : D → Value
  | .non => .type "NoneType"
  | .bl _ => .type "bool"
  | .int _ => .type "int"
  | .str _ => .type "str"
  | .ref _ => .none
  | .lst _ => .type "list"
  | .tup _ => .type "tuple"
  | .ins C _ _ => .ref C
  | .exc C _ _ => .none
structure ClsT (K : PySem.W.Frag) (C : Addr) : Prop where
  c : Cls K C
  a : PySem.W.findIn K (.ref C) "__class__" = some (some (.builtin "object.__class__"))
  g : PySem.W.specialIn K (.builtin "object.__class__") "__get__" = some (some (.builtin "getset_descriptor.__get__"))
  t : PySem.W.takesIn K (.builtin "object.__class__") = some true
  m : PySem.W.mroIn K C (.type "object") = some true
theorem rd_ty {K : PySem.W.Frag} {H : Hp} {a : Addr} {xs : List V} (h : SqL K H a xs) : TyX K H (.ref a) (.type "list") := by
  rcases h with (h | ⟨o, h⟩) | ⟨o, its, n, e, c, _⟩
  · exact .base (.lst h)
  · exact .base (.frz h)
  · exact .kList e c
theorem rt_ty {K : PySem.W.Frag} {H : Hp} {a : Addr} {xs : List V} (h : SqT K H a xs) : TyX K H (.ref a) (.type "tuple") := by
  rcases h with (h | ⟨o, h⟩) | ⟨o, its, n, e, c, _⟩
  · exact .base (.tup h)
  · exact .fTuple h
  · exact .kTuple e c
theorem D.ty {K : PySem.W.Frag} {N : No} {H : Hp} {d : D} {v : V} (hc : ∀ C ns ds, d = .ins C ns ds → ClsT K C) (hn : d.tyV ≠ .none) (h : RepS K N H d v) : TyX K H v d.tyV := by
  cases d with
  | non => rw [h.non]; exact .base .non
  | bl b => rw [h.bl]; exact .base (.bl b)
  | int i => rw [h.int]; exact .base (.int i)
  | str s => rw [h.str]; exact .base (.str s)
  | ref a => exact (hn rfl).elim
  | lst xs =>
    obtain ⟨a, vs, rfl, h1, h2⟩ := h.lst
    exact rd_ty h1
  | tup xs =>
    obtain ⟨a, vs, rfl, h1, h2⟩ := h.tup
    exact rt_ty h1
  | ins C ns ds =>
    obtain ⟨a, dx, vs, rfl, n1, n2, h1, h2, h3, h4⟩ := h.rep fun xs e => nomatch e
    have q := hc C ns ds rfl
    exact .base (.ins h1 q.c q.a q.g q.t q.m)
  | exc C ns ds => exact (hn rfl).elim
/-- isinstance(x, u) -/
structure W.isi (kit : Value → Value → Option Bool) (u : Value) (d : D) (k : D → Prop) : Prop where
  h : ∃ b, d.tyV ≠ .none ∧ kit d.tyV u = some b ∧ k (.bl b)
theorem e_isi {c : V} {u : Value} (hu : ClsV c u) (hc : ∀ C, PySem.W.kitOne M.K (.ref C) u ≠ none → ClsT M.K C) (h : Dv M te O r fun d => W.isi (PySem.W.kitOne M.K) u d k) : De M (tCB (rIsi M.K) (tCons te (tCons (tC c) tNil))) O r k := fun σ H Q R z => by
  refine h σ H _ R fun v H1 d R1 e1 p1 ⟨⟨b, hn, hk, q⟩⟩ => ?_
  exact ⟨v, c, d.tyV, u, b, rfl, hu, D.ty (fun C ns ds e => hc C (by subst e; show PySem.W.kitOne M.K (D.tyV (.ins C ns ds)) u ≠ none; rw [hk]; exact fun z => nomatch z)) hn p1.s, hk, z (.bl b) H1 (.bl b) R1 e1 rfl q⟩
end
end Dw

/-! Wp11: bool(tuple), index. -/
namespace Dw
open PySem PySem.Spec PyProof.Rows L2
def rBoolT (K : PySem.W.Frag) : List V → Hp → VK → Prop := fun xs H Q => ∃ a ys, xs = [.ref a] ∧ SqT K H a ys ∧ Q (.bl (!ys.isEmpty)) H
theorem cr_boolT {X : Cx} : CallR X (.type "bool") (rBoolT X.K) := by
  intro pins s σ H xs us Q I r h
  obtain ⟨a, ys, rfl, h1, q⟩ := h
  rw [Vals.ref1 r]
  refine callType_codes (Q₁ := fun obj s1 => ∃ H2, obj = .bool (!ys.isEmpty) ∧ Inv X pins σ H2 s1 ∧ Q (.bl (!ys.isEmpty)) H2) F.called_bool (F.typeCall_bool_1 _) F.entry_object_init ?_ ?_
  · refine codeAny_call_builtin F.called_bool.plain F.entry_bool_new ?_
    rw [F.newCall_bool_1]
    refine wpAny_pure (bool_new (X := X) ?_)
    obtain ⟨its, rv, it, hz⟩ := I.tuple h1
    have hl := rv.length
    have e : (!its.toArray.isEmpty) = (!ys.isEmpty) := by
      cases ys <;> cases its <;> first | rfl | cases rv
    refine truthy_tuple it ?_ ?_
    · have : sizeLine < 2 ^ 63 := by decide +kernel
      rw [List.size_toArray, ← hl]
      omega
    · rw [e]
      exact ⟨H, rfl, I.tok _, q⟩
  · rintro obj s1 ⟨H2, rfl, I2, q⟩
    exact ⟨rfl, F.args_object_init_2 _ _, object_init_meets (T := "bool") (newId := "bool.__new__") F.called_bool.init.lookup F.called_bool.made F.newNe_bool X.prog X.w X.A.in1 _ s1 ⟨rfl, rfl, .bl _, H2, I2, rfl, q⟩⟩
def W.boolT (ds : List D) (k : D → Prop) : Prop := ∃ xs, ds = [.tup xs] ∧ k (.bl (!xs.isEmpty))
theorem l_boolT {K : PySem.W.Frag} : LiftL K (rBoolT K) W.boolT := fun N H ds vs k Q hN p w z => by
  obtain ⟨xs, rfl, q⟩ := w
  obtain ⟨v, rfl, h⟩ := p.one
  obtain ⟨a, us, rfl, h1, h2⟩ := h.tup
  have e : us.isEmpty = xs.isEmpty := by
    have := h2.length
    cases us <;> cases xs <;> first | rfl | cases this
  exact ⟨a, us, rfl, h1, by rw [e]; exact z.here (d := .bl (!xs.isEmpty)) rfl q⟩
/-! x.index(y), texts -/
def W.indexS (x y : D) (k : D → Prop) : Prop := ∃ (ss : List Str) (t : Str) (j : Nat), x = .lst (ss.map D.str) ∧ y = .str t ∧ ss[j]? = some t ∧ (∀ m, m < j → ss[m]? ≠ some t) ∧ k (.int (j : Nat))
section
variable {M : Md} {O : List Addr} {r : List Sl} {k : D → Prop} {te ta : TE}
theorem e_index (h : Dv M ta O r fun x => (∃ xs, x = .lst xs) ∧ Dv M te O r fun y => W.indexS x y k) : De M (tBM M.K "list" (rIndex M.K) ta (tCons te tNil)) O r k := fun σ H Q R z => by
  refine h σ H _ R fun v H1 x R1 e1 p1 ⟨⟨xs, hx⟩, h1⟩ => ?_
  have hv : tyV M.K "list" v H1 := by
    subst hx
    obtain ⟨a, vs, ea, g1, g2⟩ := p1.s.lst
    subst ea
    exact .inl ⟨rfl, vs, g1⟩
  refine ⟨hv, h1 σ H1 _ R1 fun u H2 y R2 e2 p2 ⟨ss, t, j, ex, ey, hj, hm, q⟩ => ?_⟩
  subst ex
  subst ey
  obtain ⟨a, vs, ea, g1, g2⟩ := (p1.step e2).s.lst
  subst ea
  obtain rfl := p2.s.str
  have ev : vs = ss.map V.str := repL_strs g2
  subst ev
  refine ⟨a, ss.map V.str, .str t, j, .str t, rfl, rfl, g1, rfl, ?_, ?_, ?_, ?_, z (.int (j : Nat)) H2 (.int (j : Nat)) R2 (e1.trans e2) rfl q⟩
  · rw [List.all_eq_true]
    intro x hx
    obtain ⟨s, _, rfl⟩ := List.mem_map.mp hx
    rfl
  · rw [List.getElem?_map, hj]
    rfl
  · show (t == t) = true
    simp
  · intro m z' hlt hz
    rw [List.getElem?_map] at hz
    cases e : ss[m]? with
    | none =>
      rw [e] at hz
      cases hz
    | some s =>
      rw [e] at hz
      cases hz
      show (s == t) = false
      have := hm m hlt
      rw [e] at this
      simpa using fun q => this (by rw [q])
end
end Dw

/-! Wp12: sum(lists, start). -/
namespace Dw
open PySem PySem.Spec PyProof.Rows L2
theorem plainL_up {h h' : Heap} {a : Addr} {its : Array Value} (p : PlainL h a its) (k : ∀ o, h.get? a = some o → h'.get? a = some o) : PlainL h' a its := by
  obtain ⟨o, n, e, r⟩ := p
  exact ⟨o, n, k o e, r⟩
theorem add_lists {prog : Program} {w : World} {A : Around} {E : Value → Shared → Prop} {s : Shared} {l b : Addr} {xs ys : Array Value} {Q : Value → Shared → Prop} (p1 : PlainL s.heap l xs) (p2 : PlainL s.heap b ys) (hs : xs.size + ys.size ≤ sizeLine)
    (q : Q (.ref s.heap.objs.size) { s with heap := s.heap.push { cls := .type "list", data := .seq (xs ++ ys) } }) : wpAny (model prog w) A (binaryOp .Add (.ref l) (.ref b)) Q E s := by
  obtain ⟨o1, n1, e1, c1, d1, q1⟩ := p1
  obtain ⟨o2, n2, e2, c2, d2, q2⟩ := p2
  obtain ⟨cls, dd, data, sl⟩ := o1
  obtain ⟨cls2, dd2, data2, sl2⟩ := o2
  simp only at c1 q1 c2 q2
  subst c1 q1 c2 q2
  exact concat_meets ⟨_, e1, rfl⟩ ⟨_, e2, rfl⟩ noFill_list_add seq_list_add PySem.F.slot_list_add PySem.F.entry_list_add (PySem.F.args_list_add_2 _ _)
    (list_addW l b xs ys n1 n2 dd dd2 sl sl2 hs) ⟨e1, e2, q⟩
def cat (bs : List (Addr × List Value)) : List Value := (bs.map (·.2)).flatten
def ExL (h : Heap) (a : Addr) (its : Array Value) : Prop := ∃ n, h.get? a = some { cls := .type "list", data := .seq its n }
theorem sum_loop {prog : Program} {w : World} {A : Around} {R : Result → Shared → Prop} {I l S : Addr} {h0 : Heap} {bs : List (Addr × List Value)} (hh : A.in1.handled = none) (hIS : I ≠ S) (hI : h0.objs.size ≤ I) (hS : h0.objs.size ≤ S)
    (hl : h0.IsList l (bs.map fun p => Value.ref p.1).toArray) (hb : ∀ p ∈ bs, PlainL h0 p.1 p.2.toArray) :
    ∀ (k i : Nat) (s : Shared) (T : Addr) (acc : List Value) (c : Nat), bs.length - i = k → i ≤ bs.length → s.heap.IsListIter I l i → (∀ b o, h0.get? b = some o → s.heap.get? b = some o) → h0.objs.size ≤ s.heap.objs.size →
      s.heap.get? S = some { cls := .type "list", data := .seq #[.ref T] c } → PlainL s.heap T acc.toArray → (i = 0 ∨ (h0.objs.size ≤ T ∧ ExL s.heap T acc.toArray)) → T ≠ S → T ≠ I → acc.length + (cat (bs.drop i)).length ≤ sizeLine →
      (∀ h' T', (∀ b o, h0.get? b = some o → h'.get? b = some o) → PlainL h' T' (acc ++ cat (bs.drop i)).toArray → ((T' = T ∧ bs = []) ∨ (h0.objs.size ≤ T' ∧ ExL h' T' (acc ++ cat (bs.drop i)).toArray)) → R (.ok (.ret (.ref T'))) { s with heap := h' }) →
      codeAny (model prog w) A (Code.builtin "sum.loop" ⟨[.ref I, .ref S, rawInt 2, rawInt 0], []⟩) R s := by
  intro k
  induction k with
  | zero =>
    intro i s T acc c hk hi hit kp sz hs hT hx n1 n2 ht q
    have ei : i = bs.length := by omega
    refine codeAny_builtin F.entry_sum_loop ?_
    rw [Around.under_plainId F.plain_sum_loop]
    unfold Builtin.«sum.loop»
    refine wpAny_bind (wpAny_seqItems hs rfl ?_)
    simp only [rawInt]
    refine wpAny_bind (wpAny_tryCatch ?_)
    have hl' : s.heap.IsList l (bs.map fun p => Value.ref p.1).toArray := by
      obtain ⟨o, e, r⟩ := hl
      exact ⟨o, kp l o e, r⟩
    refine wpAny_pyNext_list_end hh hit hl' ?_ fun h' ex => ?_
    · rw [ei]
      simp
    · show wpAny _ _ (ret (.ref T)) _ _ _
      refine wpAny_pure ?_
      have kp' : ∀ b o, h0.get? b = some o → h'.get? b = some o := fun b o e => ex b o (fun z => by
        subst z
        exact absurd (Heap.lt_size e) (Nat.not_lt.mpr hI)) (kp b o e)
      have ed : bs.drop i = [] := by rw [ei]; exact List.drop_length
      have ea : acc ++ cat (bs.drop i) = acc := by
        rw [ed]
        exact List.append_nil acc
      refine q h' T kp' ?_ ?_
      · rw [ea]
        exact plainL_up hT fun o e => ex T o n2 e
      · rcases hx with h0 | ⟨h1, n, h2⟩
        · left
          refine ⟨rfl, List.length_eq_zero_iff.mp ?_⟩
          omega
        · right
          rw [ea]
          exact ⟨h1, n, ex T _ n2 h2⟩
  | succ k ih =>
    intro i s T acc c hk hi hit kp sz hs hT hx n1 n2 ht q
    have hlt : i < bs.length := by omega
    obtain ⟨p, hp⟩ : ∃ p, bs[i]? = some p := ⟨_, List.getElem?_eq_getElem hlt⟩
    have hpm : p ∈ bs := List.mem_of_getElem? hp
    have ed : bs.drop i = p :: bs.drop (i + 1) := by
      rw [List.drop_eq_getElem_cons hlt]
      rw [List.getElem?_eq_getElem hlt] at hp
      cases hp
      rfl
    have ec : cat (bs.drop i) = p.2 ++ cat (bs.drop (i + 1)) := by rw [ed]; rfl
    refine codeAny_builtin F.entry_sum_loop ?_
    rw [Around.under_plainId F.plain_sum_loop]
    unfold Builtin.«sum.loop»
    refine wpAny_bind (wpAny_seqItems hs rfl ?_)
    simp only [rawInt]
    refine wpAny_bind (wpAny_tryCatch ?_)
    have hl' : s.heap.IsList l (bs.map fun p => Value.ref p.1).toArray := by
      obtain ⟨o, e, r⟩ := hl
      exact ⟨o, kp l o e, r⟩
    refine wpAny_pyNext_list_item (x := .ref p.1) hit hl' (by simp [hp]) fun h1 it1 sb => ?_
    have k1 : ∀ b o, h0.get? b = some o → h1.get? b = some o := fun b o e => by
      rw [sb.2 b (fun z => by
        subst z
        exact absurd (Heap.lt_size e) (Nat.not_lt.mpr hI))]
      exact kp b o e
    have S1 : h1.get? S = some { cls := .type "list", data := .seq #[.ref T] c } := by rw [sb.2 S (fun z => hIS z.symm)]; exact hs
    have T1 : PlainL h1 T acc.toArray := plainL_up hT fun o e => by rw [sb.2 T n2]; exact e
    have sz1 : h0.objs.size ≤ h1.objs.size := by rw [sb.1]; exact sz
    have B1 : PlainL h1 p.1 p.2.toArray := plainL_up (hb p hpm) fun o e => k1 _ o e
    have la : acc.length + p.2.length ≤ sizeLine := by
      rw [ec, List.length_append] at ht
      omega
    show wpAny _ _ ((holding [Value.ref p.1] (binaryOp .Add (.ref T) (.ref p.1))).attempt >>= _) _ _ _
    refine wpAny_bind (wpAny_attempt (wpAny_holding (add_lists (s := { s with heap := h1 }) T1 B1 (by rw [List.size_toArray, List.size_toArray]; exact la) ?_)))
    simp only []
    have S2 : (h1.push { cls := .type "list", data := .seq (acc.toArray ++ p.2.toArray) }).get? S = some { cls := .type "list", data := .seq #[.ref T] c } := Heap.get?_push_of_some _ S1
    refine wpAny_bind (wpAny_updateSeq S2 rfl ?_ (show 1 ≤ sizeLine by decide +kernel) (show 1 ≤ sizeLine + 1 by decide +kernel))
    have nS : h1.objs.size ≠ S := fun z => by
      subst z
      exact absurd (Heap.lt_size S1) (Nat.lt_irrefl _)
    have S3 := Heap.get?_update_self (Obj.mapSeq fun _ => #[Value.ref h1.objs.size]) S2 rfl
    refine wpAny_bind (wpAny_letGo ?_)
    refine wpAny_bind (wpAny_updateSeq S3 rfl ?_ (show 1 ≤ sizeLine by decide +kernel) (show 1 ≤ sizeLine + 1 by decide +kernel))
    refine wpAny_pure ⟨plainId_quiet F.plain_sum_loop _, ?_⟩
    have nI : h1.objs.size ≠ I := fun z => by
      obtain ⟨o, e, _⟩ := it1
      subst z
      exact absurd (Heap.lt_size e) (Nat.lt_irrefl _)
    have S4 := Heap.get?_update_self (Obj.mapSeq fun _ => #[Value.ref h1.objs.size]) S3 rfl
    have up4 : ∀ b o, b ≠ S → h1.get? b = some o → (((h1.push { cls := .type "list", data := .seq (acc.toArray ++ p.2.toArray) }).update S (Obj.mapSeq fun _ => #[Value.ref h1.objs.size])).update S (Obj.mapSeq fun _ => #[Value.ref h1.objs.size])).get? b = some o := fun b o n e => by
      rw [Heap.get?_update_other _ _ (fun z => n z.symm), Heap.get?_update_other _ _ (fun z => n z.symm)]
      exact Heap.get?_push_of_some _ e
    have eacc : (acc.toArray ++ p.2.toArray) = (acc ++ p.2).toArray := by simp
    refine ih (i + 1) { s with heap := _ } h1.objs.size (acc ++ p.2) _ (by omega) (by omega) ?_ (fun b o e => up4 b o (fun z => by
      subst z
      exact absurd (Heap.lt_size e) (Nat.not_lt.mpr hS)) (k1 b o e)) ?_ S4 ?_ (.inr ⟨sz1, ?_⟩) nS nI ?_ fun h' T' g1 g2 g3 => ?_
    · obtain ⟨o, e, r⟩ := it1
      exact ⟨o, up4 I o hIS e, r⟩
    · rw [Heap.size_update, Heap.size_update, Heap.size_push]
      exact Nat.le_succ_of_le sz1
    · refine ⟨{ cls := .type "list", data := .seq (acc.toArray ++ p.2.toArray) }, _, ?_, rfl, rfl, by rw [eacc]⟩
      rw [Heap.get?_update_other _ _ (fun z => nS z.symm), Heap.get?_update_other _ _ (fun z => nS z.symm)]
      exact Heap.get?_push_size _ rfl
    · refine ⟨0, ?_⟩
      rw [← eacc, Heap.get?_update_other _ _ (fun z => nS z.symm), Heap.get?_update_other _ _ (fun z => nS z.symm)]
      exact Heap.get?_push_size _ rfl
    · rw [ec] at ht
      rw [List.length_append] at ht ⊢
      omega
    · refine q h' T' g1 ?_ ?_
      · rw [ec, ← List.append_assoc]
        exact g2
      · rcases g3 with ⟨_, g3⟩ | g3
        · rw [g3] at hlt
          exact absurd hlt (Nat.not_lt_zero _)
        · right
          rw [ec, ← List.append_assoc]
          exact g3
theorem call_sum_lists {prog : Program} {w : World} {A : Around} {E : Value → Shared → Prop} {s : Shared} {l e : Addr} {us : List Value} {bs : List (Addr × List Value)} {Q : Value → Shared → Prop} (hh : A.handled = none)
    (hl : s.heap.IsList l (bs.map fun p => Value.ref p.1).toArray) (he : PlainL s.heap e us.toArray) (hb : ∀ p ∈ bs, PlainL s.heap p.1 p.2.toArray) (hz : us.length + (cat bs).length ≤ sizeLine)
    (q : ∀ h' T, (∀ b o, s.heap.get? b = some o → h'.get? b = some o) → PlainL h' T (us ++ cat bs).toArray → ((T = e ∧ bs = []) ∨ (s.heap.objs.size ≤ T ∧ ExL h' T (us ++ cat bs).toArray)) → Q (.ref T) { s with heap := h' }) :
    wpAny (model prog w) A (call (.builtin "sum") [.ref l, .ref e]) Q E s := by
  refine call_function_tree F.kind_sum F.plain_sum F.entry_sum (by rfl) ?_
  unfold Builtin.sum
  simp only [List.length_cons, List.length_nil]
  rw [if_neg (by decide)]
  refine wpAny_bind (wpAny_of_eq (a := [some (.ref e)]) rfl ?_)
  simp only []
  refine wpAny_bind (wpAny_pyIter_list hl ?_)
  refine wpAny_bind (wpAny_pure ?_)
  have he' : ({ s with heap := s.heap.push { cls := .type "list_iterator", data := .fields #[.ref l, .int 0 0] } } : Shared).TypeIs (.ref e) "list" := by
    obtain ⟨o, n, e1, e2, _⟩ := he
    exact ⟨o, Heap.get?_push_of_some _ e1, e2⟩
  have sb : isSubtype (Value.type "list") (Value.type "bytes") = pure false := by rfl
  have sba : isSubtype (Value.type "list") (Value.type "bytearray") = pure false := by rfl
  simp only [List.forIn_cons, List.forIn_nil]
  refine wpAny_bind ?_
  refine wpAny_bind (wpAny_bind (wpAny_isInstance he' F.sub_list_str ?_))
  simp only [Bool.false_eq_true, if_false]
  refine wpAny_pure ?_
  refine wpAny_bind (wpAny_bind (wpAny_isInstance he' sb ?_))
  simp only [Bool.false_eq_true, if_false]
  refine wpAny_pure ?_
  refine wpAny_bind (wpAny_bind (wpAny_isInstance he' sba ?_))
  simp only [Bool.false_eq_true, if_false]
  refine wpAny_pure ?_
  refine wpAny_pure ?_
  refine wpAny_bind ?_
  unfold newList
  refine wpAny_newObj_type ?_ (by show 1 ≤ _; decide +kernel)
  refine wpAny_pure ⟨plainId_quiet F.plain_sum_loop _, ?_⟩
  have es : (s.heap.push { cls := .type "list_iterator", data := .fields #[.ref l, .int 0 0] }).objs.size = s.heap.objs.size + 1 := Heap.size_push _ _
  have gI := Heap.get?_push_size s.heap (o := { cls := .type "list_iterator", data := .fields #[.ref l, .int 0 0] }) rfl
  have lte : ∀ {b : Addr} {o : Obj}, s.heap.get? b = some o → b < s.heap.objs.size := fun h => Heap.lt_size h
  obtain ⟨oe, ne, ee, re⟩ := he
  refine sum_loop (I := s.heap.objs.size) (l := l) (S := (s.heap.push { cls := .type "list_iterator", data := .fields #[.ref l, .int 0 0] }).objs.size) (h0 := s.heap) (bs := bs) hh (fun z => ?_) (Nat.le_refl _) (by rw [es]; exact Nat.le_succ _) hl hb
    bs.length 0 _ e us 0 rfl (Nat.zero_le _) ⟨_, Heap.get?_push_of_some _ gI, rfl, rfl⟩ (fun b o h => Heap.get?_push_of_some _ (Heap.get?_push_of_some _ h)) (by rw [Heap.size_push, es]; omega) (Heap.get?_push_size _ rfl)
    ⟨oe, ne, Heap.get?_push_of_some _ (Heap.get?_push_of_some _ ee), re⟩ (.inl rfl) (fun z => ?_) (fun z => ?_) hz fun h' T' g1 g2 g3 => ?_
  · rw [es] at z
    exact absurd z (Nat.ne_of_lt (Nat.lt_succ_self _))
  · have := lte ee
    rw [z, es] at this
    exact absurd this (Nat.not_lt.mpr (Nat.le_succ _))
  · have := lte ee
    rw [z] at this
    exact absurd this (Nat.lt_irrefl _)
  · exact q h' T' g1 g2 g3

/-- sum(lists, start) -/
def catV (bs : List (Addr × List V)) : List V := (bs.map (·.2)).flatten
def rSumL (K : PySem.W.Frag) : List V → Hp → VK → Prop := fun xs H Q => ∃ (a e : Addr) (bs : List (Addr × List V)) (us : List V), xs = [.ref a, .ref e] ∧ SqL K H a (bs.map fun p => V.ref p.1) ∧ SqL K H e us ∧ (∀ p ∈ bs, SqL K H p.1 p.2) ∧ us.length + (catV bs).length ≤ sizeLine ∧
  (bs = [] → Q (.ref e) H) ∧ ∀ p, H p = none → Q (.ref p) (upd H p (.lst (us ++ catV bs)))
theorem refs_val : ∀ {bs : List (Addr × List V)} {its : List Value}, Vals (bs.map fun p => V.ref p.1) its → its = bs.map fun p => Value.ref p.1
  | [], _, r => by
    cases r
    rfl
  | b :: bs, _, r => by
    cases r with
    | cons r1 r2 =>
      rw [refs_val r2]
      obtain rfl := (show _ = Value.ref b.1 from r1)
      rfl
theorem lists_val {X : Cx} {pins : List (Addr × Obj)} {σ : L2.St} {H : Hp} {s : Shared} (I : Inv X pins σ H s) : ∀ {bs : List (Addr × List V)}, (∀ p ∈ bs, SqL X.K H p.1 p.2) → ∃ cs : List (Addr × List Value), cs.map (fun p => Value.ref p.1) = bs.map (fun p => Value.ref p.1) ∧ (∀ p ∈ cs, PlainL s.heap p.1 p.2.toArray) ∧ Vals (catV bs) (cat cs)
  | [], _ => ⟨[], rfl, (fun _ h => nomatch h), PySem.Paired.nil⟩
  | b :: bs, h => by
    obtain ⟨cs, e1, e2, e3⟩ := lists_val I fun p hp => h p (List.mem_cons_of_mem _ hp)
    obtain ⟨its, rv, il, _⟩ := I.list (h b List.mem_cons_self)
    refine ⟨(b.1, its) :: cs, by rw [List.map_cons, List.map_cons, e1], fun p hp => ?_, ?_⟩
    · rcases List.mem_cons.mp hp with rfl | hp
      · exact il
      · exact e2 p hp
    · show Vals (b.2 ++ catV bs) (its ++ cat cs)
      exact rv.append e3
theorem cr_sumL {X : Cx} (hh : X.A.handled = none) : CallR X (.builtin "sum") (rSumL X.K) := by
  intro pins s σ H xs vs Q I r h
  obtain ⟨a, e, bs, us, rfl, h1, h2, h3, hz, q0, q⟩ := h
  obtain ⟨its, rv, il, _⟩ := I.list h1
  obtain ⟨ies, rve, ile, _⟩ := I.list h2
  obtain rfl := refs_val rv
  obtain ⟨cs, c1, c2, c3⟩ := lists_val I h3
  have hv : vs = [.ref a, .ref e] := by
    cases r with
    | cons r1 r2 =>
      cases r2 with
      | cons r3 r4 =>
        cases r4
        obtain rfl := (show _ = Value.ref a from r1)
        obtain rfl := (show _ = Value.ref e from r3)
        rfl
  rw [hv]
  have l1 := c3.length
  have l2 := rve.length
  refine call_sum_lists (bs := cs) hh (by rw [c1]; exact il.isList) ile c2 (by omega) fun h' T up pl cases_ => ?_
  rcases cases_ with ⟨eT, ec⟩ | ⟨sz, n, ex⟩
  · subst eT
    have eb : bs = [] := by
      subst ec
      cases bs with
      | nil => rfl
      | cons b bs => cases c1
    exact ⟨.ref T, H, I.kept (t' := s.toks) up, rfl, q0 eb⟩
  · exact ⟨.ref T, upd H T (.lst (us ++ catV bs)), I.laid (t' := s.toks) up sz ⟨by rw [List.length_append]; exact hz, ies ++ cat cs, n, rve.append c3, ex⟩, rfl, q T (I.hok.fresh sz)⟩
def W.sumL (x y : D) (k : D → Prop) : Prop := ∃ (xss : List (List D)) (ys : List D), x = .lst (xss.map D.lst) ∧ y = .lst ys ∧ ys.length + xss.flatten.length ≤ sizeLine ∧ k (.lst (ys ++ xss.flatten))
theorem RepL.app {K : PySem.W.Frag} {N : No} {H : Hp} : ∀ {xs ys : List D} {us vs : List V}, RepL K N H xs us → RepL K N H ys vs → RepL K N H (xs ++ ys) (us ++ vs)
  | [], _, us, _, h, p => by
    obtain rfl := (show us = [] from h)
    exact p
  | x :: xs, _, _, _, ⟨u, r, e, h1, h2⟩, p => by
    subst e
    exact ⟨u, r ++ _, rfl, h1, RepL.app h2 p⟩
theorem lists_rep {K : PySem.W.Frag} {N : No} {H : Hp} : ∀ {xss : List (List D)} {vs : List V}, RepL K N H (xss.map D.lst) vs → ∃ bs : List (Addr × List V), vs = bs.map (fun p => V.ref p.1) ∧ (∀ p ∈ bs, SqL K H p.1 p.2) ∧ RepL K N H xss.flatten (catV bs)
  | [], vs, h => ⟨[], h, (fun _ h => nomatch h), rfl⟩
  | xs :: xss, _, ⟨v, r, e, ⟨a, us, ev, h1, h2⟩, h3⟩ => by
    subst e
    subst ev
    obtain ⟨bs, rfl, b2, b3⟩ := lists_rep h3
    refine ⟨(a, us) :: bs, rfl, fun p hp => ?_, ?_⟩
    · rcases List.mem_cons.mp hp with rfl | hp
      · exact h1.sq
      · exact b2 p hp
    · exact RepL.app h2 b3
theorem e_sumL {M : Md} {O : List Addr} {r : List Sl} {k : D → Prop} {ta tb : TE} (h : De M ta O r fun x => De M tb O r fun y => W.sumL x y k) : De M (tCB (rSumL M.K) (tCons ta (tCons tb tNil))) O r k := fun σ H Q R z => by
  refine h σ H _ R fun v H1 x R1 e1 p1 h1 => h1 σ H1 _ R1 fun u H2 y R2 e2 p2 ⟨xss, ys, ex, ey, hz, q⟩ => ?_
  subst ex
  subst ey
  obtain ⟨a, vs, ea, g1, g2⟩ := p1.step e2
  have p2' := p2
  obtain ⟨e, us, ee, f1, f2⟩ := p2
  subst ea
  subst ee
  obtain ⟨bs, rfl, b2, b3⟩ := lists_rep g2
  have l1 := f2.length
  have l2 := b3.length
  refine ⟨a, e, bs, us, rfl, g1.sq, f1.sq, b2, by omega, fun e0 => ?_, fun p hp => (post_of R2 (e1.trans e2) z).newL (nf_tr R2) hp (RepL.app f2 b3) q⟩
  have e3 : xss.flatten = [] := by
    rw [e0] at l2
    exact List.length_eq_zero_iff.mp l2
  rw [e3, List.append_nil] at q
  exact z (.ref e) H2 (.lst ys) R2 (e1.trans e2) p2' q
end Dw

/-! DwSetL: a set made of a list or a tuple. -/
namespace Dw
open PySem PySem.Spec PyProof.Rows L2
section
variable {P : Program} {w : World} {κ : Type} [DecidableEq κ] {knd : PySem.KeyKind P w κ} {key : Value → κ} {A : Around} {E : Value → Shared → Prop} {s : Shared}
/-- the loop that fills it -/
theorem fill_set {I a : Addr} {fp wr : List Addr} {G : Array GenState → Array GenState → Prop} {n : Nat} {Pv : Nat → Value → Prop} {St : Nat → Shared → Prop} {R : Result → Shared → Prop} (W : WalksS P w A.in1 I fp wr G n Pv St) (na : a ∉ fp) (xs : List Value)
    (hn : n = xs.length) (room : xs.length + 1 < scanBound) (gv : ∀ x ∈ xs, Gv knd key x) (val : ∀ i v, Pv i v → xs[i]? = some v) :
    ∀ (m i : Nat) (s : Shared), n - i = m → i ≤ n → St i s → (∃ c, c ≤ i ∧ SetG knd key s.heap a (fun j => decide (j ∈ (xs.take i).map key)) c) →
      (∀ s' c, Moved (a :: wr) G s s' → c ≤ n → SetG knd key s'.heap a (fun j => decide (j ∈ xs.map key)) c → R (.ok (.ret .none)) s') → codeAny (model P w) A (.builtin "set.update.loop" ⟨[.ref a, .ref I], []⟩) R s := by
  have nw : a ∉ wr := fun h => na (W.sub _ h)
  intro m
  induction m with
  | zero =>
    intro i s hm hi st ⟨c, hc, S⟩ done
    obtain rfl : i = n := by omega
    refine codeAny_builtin F.entry_set_update_loop ?_
    rw [Around.under_plainId F.plain_set_update_loop _]
    refine wpAny_bind (m := pyNext (.ref I)) (W.done s _ _ st fun s' mv => ?_)
    rw [List.take_of_length_le (by omega)] at S
    exact wpAny_pure (done s' c (mv.mono fun b q => List.mem_cons_of_mem _ q) hc (S.at fun o e => mv.heap a o nw e))
  | succ m ih =>
    intro i s hm hi st ⟨c, hc, S⟩ done
    have lt : i < n := by omega
    refine codeAny_builtin F.entry_set_update_loop ?_
    rw [Around.under_plainId F.plain_set_update_loop _]
    refine wpAny_bind (m := pyNext (.ref I)) (W.item i s _ _ lt st fun v s' pv st' mv => ?_)
    have hv := val i v pv
    have g := gv v (List.mem_of_getElem? hv)
    have S' : SetG knd key s'.heap a _ c := S.at fun o e => mv.heap a o nw e
    refine wpAny_bind (m := holding [v] (setAdd a v)) (wpAny_holding ?_)
    unfold setAdd
    refine wpAny_holding (wpAny_bind (knd.pyHash (k := key v) g.1 ?_))
    refine put_one (s := { s' with toks := s'.toks + 1 }) g S' (by omega) fun h' sb S2 => ?_
    have S3 : SetG knd key h' a (fun j => decide (j ∈ (xs.take (i + 1)).map key)) (if decide (key v ∈ (xs.take i).map key) = true then c else c + 1) := by
      have e : (fun j => (fun j => decide (j ∈ (xs.take i).map key)) j || decide (j = key v)) = fun j => decide (j ∈ (xs.take (i + 1)).map key) := funext fun j => by
        rw [List.take_add_one, hv, List.map_append]
        simp
      rw [e] at S2
      exact S2
    have c3 : (if decide (key v ∈ (xs.take i).map key) = true then c else c + 1) ≤ i + 1 := by split <;> omega
    refine wpAny_pure ⟨plainId_quiet F.plain_set_update_loop _, ih (i + 1) _ (by omega) lt (W.frame _ s' _ _ st' (Nat.le_succ _) fun b hb o e => (sb.2 b fun q => na (q ▸ hb)).trans e) ⟨_, c3, S3⟩ fun s2 c2 mv2 hc2 S4 => done s2 c2 (Moved.trans W.gtrans ((mv.mono fun b q => List.mem_cons_of_mem _ q).then_heap (Nat.le_succ _) fun b o hb e => (sb.2 b fun q => hb (q ▸ List.mem_cons_self)).trans e) mv2) hc2 S4⟩
/-- a set that is new -/
abbrev E0 (w : World) : Obj := { cls := .type "set", dict := none, data := .set #[] 0 (.fresh 0 0 (!w.params.followText "set-order")) }
set_option maxHeartbeats 3200000 in
/-- set(a list) -/
theorem call_setL {l : Addr} {items : Array Value} {Q : Value → Shared → Prop} (hh : A.handled = none) (hl : s.heap.IsList l items) (gv : ∀ x ∈ items.toList, Gv knd key x) (room : items.toList.length + 1 < scanBound)
    (h : ∀ (h' : Heap) (tk c : Nat), SetG knd key h' s.heap.objs.size (fun j => decide (j ∈ items.toList.map key)) c → (∀ b o, s.heap.get? b = some o → h'.get? b = some o) → Q (.ref s.heap.objs.size) { s with heap := h', toks := tk }) :
    wpAny (model P w) A (call (.type "set") [.ref l]) Q E s := by
  obtain ⟨_, _, mro⟩ := F.called_set.mro
  have made := F.called_set.made
  have sub := F.called_set.sub
  refine wpAny_call (codeAny_of_tree ?_)
  show wpAny _ _ (callAny (.type "set") _) _ _ _
  refine wpAny_pure ⟨Code.quiet_builtin _ (by decide +kernel), codeAny_builtin F.entry_type_call ?_⟩
  rw [Around.under_plain (weight_type_call_type "set" [.ref l] []) rfl]
  have q1 := F.called_set.notType
  have q2 := F.called_set.canCreate
  have q3 := F.typeCall_set_1 (.ref l)
  repeat (any_goals (first | assumption | wp_step))
  refine codeAny_mono (code_set_led1 (.ref l) (E := E) (Q₁ := fun v z => v = .ref s.heap.objs.size ∧ z = { s with heap := s.heap.push (E0 w) }) ⟨rfl, rfl⟩) fun r z hz => ?_
  rcases r with e | r
  · exact hz
  cases r with
  | ret v =>
    obtain ⟨rfl, rfl⟩ := hz
    have at0 : (s.heap.push (E0 w)).get? s.heap.objs.size = some (E0 w) := Heap.get?_push_size _ rfl
    have ty : Shared.TypeIs { s with heap := s.heap.push (E0 w) } (.ref s.heap.objs.size) "set" := ⟨_, at0, rfl⟩
    have q4 := F.called_set.init.lookup
    have q5 := F.called_set.init.bind (.ref s.heap.objs.size)
    repeat (any_goals (first | assumption | wp_step))
    refine codeAny_mono (codeAny_call_builtin (R := wants (fun v z => v = .none ∧ ∃ h' tk c, z = { s with heap := h', toks := tk } ∧ SetG knd key h' s.heap.objs.size (fun j => decide (j ∈ items.toList.map key)) c ∧ ∀ b o, s.heap.get? b = some o → h'.get? b = some o) E) F.called_set.init.plain F.entry_set_init (check_set_init_1 ty ?_)) fun r z hz => ?_
    · have ltl : l < s.heap.objs.size := by
        obtain ⟨o, ho, _⟩ := hl
        exact Heap.lt_size ho
      have there : (s.heap.push (E0 w)).IsList l items := hl.push _
      obtain ⟨⟨_, d, _, sl⟩, ho, e1, m, e2⟩ := there
      simp only at e1 e2
      subst e1 e2
      have q6 := F.sub_list_set
      have q7 := F.sub_list_frozenset
      have q8 : (Value.type "list" == Value.type "dict") = false := by decide
      have there : (s.heap.push (E0 w)).IsList l items := ⟨_, ho, rfl, m, rfl⟩
      unfold Builtin.«set.__init__» noKeywords Builtin.Frozenset.updateFrom
      generalize hPI : pyIter = PI
      wp_walk
      subst hPI
      refine wpAny_pyIter_list there (wpAny_bind (wpAny_runValue ?_))
      have sz : (s.heap.push (E0 w)).objs.size = s.heap.objs.size + 1 := Heap.size_push ..
      refine fill_set (knd := knd) (key := key) (a := s.heap.objs.size) ((Walks.list (by simp [hh]) _ l (by rw [sz]; exact Nat.ne_of_lt (Nat.lt_succ_of_lt ltl)) items).toS) (by
        rw [sz]
        simp only [List.mem_cons, List.not_mem_nil, or_false, not_or]
        exact ⟨Nat.ne_of_lt (Nat.lt_succ_self _), Nat.ne_of_gt ltl⟩) items.toList rfl room gv (fun i v e => by rw [Array.getElem?_toList]; exact e) (items.size - 0) 0 _ (by omega) (Nat.zero_le _) ⟨⟨_, Heap.get?_push_size _ rfl, rfl, rfl⟩, there.push _⟩ ⟨0, Nat.le_refl 0, setG_fresh.at fun o e => Heap.get?_push_of_some _ e⟩ fun z c mv _ S => ?_
      obtain ⟨h', g, d', tk, os⟩ := z
      obtain rfl : g = s.gens := mv.gens
      obtain rfl : d' = s.drawn := mv.drawn
      obtain rfl : os = s.os := mv.os
      refine wpAny_pure ?_
      show wpAny _ _ (ret Value.none) _ _ _
      refine wpAny_pure ⟨rfl, h', tk, c, rfl, S, fun b o e => mv.heap b o ?_ (Heap.get?_push_of_some _ (Heap.get?_push_of_some _ e))⟩
      have lt := Heap.lt_size e
      rw [sz]
      simp only [List.mem_cons, List.not_mem_nil, or_false, not_or]
      exact ⟨Nat.ne_of_lt lt, Nat.ne_of_lt (Nat.lt_succ_of_lt lt)⟩
    · rcases r with e | r
      · exact hz
      cases r with
      | ret v =>
        obtain ⟨rfl, h', tk, c, rfl, S, keep⟩ := hz
        repeat (any_goals (first | assumption | wp_step))
        exact h _ _ _ S keep
      | _ => exact hz.elim
  | _ => exact hz.elim
set_option maxHeartbeats 3200000 in
/-- set(a tuple) -/
theorem call_setT {l : Addr} {items : Array Value} {Q : Value → Shared → Prop} (hh : A.handled = none) (hl : s.heap.IsTuple l items) (gv : ∀ x ∈ items.toList, Gv knd key x) (room : items.toList.length + 1 < scanBound)
    (h : ∀ (h' : Heap) (tk c : Nat), SetG knd key h' s.heap.objs.size (fun j => decide (j ∈ items.toList.map key)) c → (∀ b o, s.heap.get? b = some o → h'.get? b = some o) → Q (.ref s.heap.objs.size) { s with heap := h', toks := tk }) :
    wpAny (model P w) A (call (.type "set") [.ref l]) Q E s := by
  obtain ⟨_, _, mro⟩ := F.called_set.mro
  have made := F.called_set.made
  have sub := F.called_set.sub
  refine wpAny_call (codeAny_of_tree ?_)
  show wpAny _ _ (callAny (.type "set") _) _ _ _
  refine wpAny_pure ⟨Code.quiet_builtin _ (by decide +kernel), codeAny_builtin F.entry_type_call ?_⟩
  rw [Around.under_plain (weight_type_call_type "set" [.ref l] []) rfl]
  have q1 := F.called_set.notType
  have q2 := F.called_set.canCreate
  have q3 := F.typeCall_set_1 (.ref l)
  repeat (any_goals (first | assumption | wp_step))
  refine codeAny_mono (code_set_led1 (.ref l) (E := E) (Q₁ := fun v z => v = .ref s.heap.objs.size ∧ z = { s with heap := s.heap.push (E0 w) }) ⟨rfl, rfl⟩) fun r z hz => ?_
  rcases r with e | r
  · exact hz
  cases r with
  | ret v =>
    obtain ⟨rfl, rfl⟩ := hz
    have at0 : (s.heap.push (E0 w)).get? s.heap.objs.size = some (E0 w) := Heap.get?_push_size _ rfl
    have ty : Shared.TypeIs { s with heap := s.heap.push (E0 w) } (.ref s.heap.objs.size) "set" := ⟨_, at0, rfl⟩
    have q4 := F.called_set.init.lookup
    have q5 := F.called_set.init.bind (.ref s.heap.objs.size)
    repeat (any_goals (first | assumption | wp_step))
    refine codeAny_mono (codeAny_call_builtin (R := wants (fun v z => v = .none ∧ ∃ h' tk c, z = { s with heap := h', toks := tk } ∧ SetG knd key h' s.heap.objs.size (fun j => decide (j ∈ items.toList.map key)) c ∧ ∀ b o, s.heap.get? b = some o → h'.get? b = some o) E) F.called_set.init.plain F.entry_set_init (check_set_init_1 ty ?_)) fun r z hz => ?_
    · have ltl : l < s.heap.objs.size := by
        obtain ⟨o, ho, _⟩ := hl
        exact Heap.lt_size ho
      have there : (s.heap.push (E0 w)).IsTuple l items := hl.push _
      obtain ⟨⟨_, d, _, sl⟩, ho, e1, m, e2⟩ := there
      simp only at e1 e2
      subst e1 e2
      have q6 := F.sub_tuple_set
      have q7 := F.sub_tuple_frozenset
      have q8 : (Value.type "tuple" == Value.type "dict") = false := by decide
      have there : (s.heap.push (E0 w)).IsTuple l items := ⟨_, ho, rfl, m, rfl⟩
      unfold Builtin.«set.__init__» noKeywords Builtin.Frozenset.updateFrom
      generalize hPI : pyIter = PI
      wp_walk
      subst hPI
      refine wpAny_pyIter_tuple there (wpAny_bind (wpAny_runValue ?_))
      have sz : (s.heap.push (E0 w)).objs.size = s.heap.objs.size + 1 := Heap.size_push ..
      refine fill_set (knd := knd) (key := key) (a := s.heap.objs.size) ((Walks.tuple (by simp [hh]) _ l (by rw [sz]; exact Nat.ne_of_lt (Nat.lt_succ_of_lt ltl)) items).toS) (by
        rw [sz]
        simp only [List.mem_cons, List.not_mem_nil, or_false, not_or]
        exact ⟨Nat.ne_of_lt (Nat.lt_succ_self _), Nat.ne_of_gt ltl⟩) items.toList rfl room gv (fun i v e => by rw [Array.getElem?_toList]; exact e) (items.size - 0) 0 _ (by omega) (Nat.zero_le _) ⟨⟨_, Heap.get?_push_size _ rfl, rfl, rfl⟩, there.push _⟩ ⟨0, Nat.le_refl 0, setG_fresh.at fun o e => Heap.get?_push_of_some _ e⟩ fun z c mv _ S => ?_
      obtain ⟨h', g, d', tk, os⟩ := z
      obtain rfl : g = s.gens := mv.gens
      obtain rfl : d' = s.drawn := mv.drawn
      obtain rfl : os = s.os := mv.os
      refine wpAny_pure ?_
      show wpAny _ _ (ret Value.none) _ _ _
      refine wpAny_pure ⟨rfl, h', tk, c, rfl, S, fun b o e => mv.heap b o ?_ (Heap.get?_push_of_some _ (Heap.get?_push_of_some _ e))⟩
      have lt := Heap.lt_size e
      rw [sz]
      simp only [List.mem_cons, List.not_mem_nil, or_false, not_or]
      exact ⟨Nat.ne_of_lt lt, Nat.ne_of_lt (Nat.lt_succ_of_lt lt)⟩
    · rcases r with e | r
      · exact hz
      cases r with
      | ret v =>
        obtain ⟨rfl, h', tk, c, rfl, S, keep⟩ := hz
        repeat (any_goals (first | assumption | wp_step))
        exact h _ _ _ S keep
      | _ => exact hz.elim
  | _ => exact hz.elim
end
end Dw

/-! DwSetC: set(numbers), set(texts) in the hand layer. -/
namespace Dw
open PySem PySem.Spec PyProof.Rows L2
def keyI (v : Value) : Int := match v with
  | .int k _ => k
  | _ => 0
theorem gv_int (P : Program) (w : World) (k : Int) (t : Tok) : Gv (intKind P w) keyI (.int k t) := ⟨intKind_is P w k t, rfl⟩
theorem keys_ints {P : Program} {w : World} : ∀ {us : List Value} {ns : List Int}, IntsAre us ns → us.map keyI = ns ∧ ∀ x ∈ us, Gv (intKind P w) keyI x
  | _, _, .nil => ⟨rfl, fun x h => nomatch h⟩
  | _, _, .cons n t h => by
    obtain ⟨e, g⟩ := keys_ints (P := P) (w := w) h
    refine ⟨by rw [List.map_cons, e]; rfl, fun x hx => ?_⟩
    rcases List.mem_cons.mp hx with rfl | hx
    · exact gv_int P w n t
    · exact g x hx
theorem keys_strs {P : Program} {w : World} : ∀ {us : List Value} {ns : List Str}, StrsAre us ns → us.map keyS = ns ∧ ∀ x ∈ us, Gv (PySem.strKind P w) keyS x
  | _, _, .nil => ⟨rfl, fun x h => nomatch h⟩
  | _, _, .cons n t h => by
    obtain ⟨e, g⟩ := keys_strs (P := P) (w := w) h
    refine ⟨by rw [List.map_cons, e]; rfl, fun x hx => ?_⟩
    rcases List.mem_cons.mp hx with rfl | hx
    · exact gv_str P w n t
    · exact g x hx
section
variable {P : Program} {w : World} {κ : Type} [DecidableEq κ] {knd : PySem.KeyKind P w κ} {key : Value → κ} {h : Heap} {a : Addr} {n : Nat}
/-- as many as differ -/
theorem SetG.count {S : κ → Bool} (R : SetG knd key h a S n) : ∃ l : List κ, l.Nodup ∧ (∀ k, k ∈ l ↔ S k = true) ∧ l.length = n := by
  obtain ⟨o, es, ep, t, _, _, _, D⟩ := R
  exact ⟨_, D.nodup, fun k => (D.mem k).symm, by rw [List.length_map, Array.length_toList]; exact D.size⟩
theorem setR_of {S : Int → Bool} (R : SetG (intKind P w) keyI h a S n) : SetR w h a S n := by
  obtain ⟨o, es, ep, t, ho, hx, hd, D⟩ := R
  have e : (fun e : Int × Value => keyI e.2) = keyOf := funext fun e => by
    obtain ⟨i, v⟩ := e
    cases v <;> rfl
  have nd := D.nodup
  have me := D.mem
  unfold ksOf at nd me
  rw [e] at nd me
  refine ⟨o, es, ep, t, ho, hx, hd, fun e he => ?_, nd, me, D.small, D.fits, D.size, D.ris, D.led⟩
  obtain ⟨g1, g2⟩ := D.good e he
  obtain ⟨t, q⟩ := Value.isInt_shape (k := keyI e.2) g1.1
  exact ⟨_, t, q, g2⟩
end
/-- set(numbers) -/
def rSetI (K : PySem.W.Frag) (w : World) : List V → Hp → VK → Prop := fun xs H Q => ∃ (p : Addr) (ns : List Int), xs = [.ref p] ∧ (SqL K H p (ns.map V.int) ∨ SqT K H p (ns.map V.int)) ∧ ns.length + 1 < scanBound ∧
  ∀ (q : Addr) (l : List Int), l.Nodup → (∀ k, k ∈ l ↔ k ∈ ns) → H q = none → Q (.ref q) (upd H q (SetO w q (fun j => decide (j ∈ ns)) l.length))
def rSetS (K : PySem.W.Frag) (P : Program) (w : World) : List V → Hp → VK → Prop := fun xs H Q => ∃ (p : Addr) (ns : List Str), xs = [.ref p] ∧ (SqL K H p (ns.map V.str) ∨ SqT K H p (ns.map V.str)) ∧ ns.length + 1 < scanBound ∧
  ∀ (q : Addr) (l : List Str), l.Nodup → (∀ k, k ∈ l ↔ k ∈ ns) → H q = none → Q (.ref q) (upd H q (SetX P w q (fun j => decide (j ∈ ns)) l.length))
section
variable {X : Cx}
theorem cr_setI (hc : X.calm = true) : CallR X (.type "set") (rSetI X.K X.w) := by
  intro pins s σ H xs us Q I r h
  obtain ⟨p, ns, rfl, hq, room, q⟩ := h
  obtain ⟨u, rfl, ru⟩ := vals1 r
  cases ru
  have fin : ∀ (its : List Value), IntsAre its ns → ∀ (h' : Heap) (tk c : Nat), SetG (intKind X.prog X.w) keyI h' s.heap.objs.size (fun j => decide (j ∈ its.toArray.toList.map keyI)) c → (∀ b o, s.heap.get? b = some o → h'.get? b = some o) → EP X pins σ Q (.ref s.heap.objs.size) { s with heap := h', toks := tk } := fun its hi h' tk c S keep => by
    rw [List.toList_toArray, (keys_ints (P := X.prog) (w := X.w) hi).1] at S
    obtain ⟨l, l1, l2, rfl⟩ := S.count
    exact ⟨.ref s.heap.objs.size, _, I.laid (t' := tk) keep (Nat.le_refl _) (setO_new (setR_of S)), rfl, q _ l l1 (fun k => by rw [l2, decide_eq_true_eq]) (I.hok.fresh (Nat.le_refl _))⟩
  rcases hq with hq | hq
  · obtain ⟨its, rv, pl, hz⟩ := I.list hq
    have hi := ints_of_vals rv
    exact call_setL (I.ok.hd hc) pl.isList (by rw [List.toList_toArray]; exact (keys_ints hi).2) (by rw [List.toList_toArray, ← rv.length, List.length_map]; exact room) (fin its hi)
  · obtain ⟨its, rv, pt, hz⟩ := I.tuple hq
    have hi := ints_of_vals rv
    exact call_setT (I.ok.hd hc) pt (by rw [List.toList_toArray]; exact (keys_ints hi).2) (by rw [List.toList_toArray, ← rv.length, List.length_map]; exact room) (fin its hi)
theorem cr_setS (hc : X.calm = true) : CallR X (.type "set") (rSetS X.K X.prog X.w) := by
  intro pins s σ H xs us Q I r h
  obtain ⟨p, ns, rfl, hq, room, q⟩ := h
  obtain ⟨u, rfl, ru⟩ := vals1 r
  cases ru
  have fin : ∀ (its : List Value), StrsAre its ns → ∀ (h' : Heap) (tk c : Nat), SetG (PySem.strKind X.prog X.w) keyS h' s.heap.objs.size (fun j => decide (j ∈ its.toArray.toList.map keyS)) c → (∀ b o, s.heap.get? b = some o → h'.get? b = some o) → EP X pins σ Q (.ref s.heap.objs.size) { s with heap := h', toks := tk } := fun its hi h' tk c S keep => by
    rw [List.toList_toArray, (keys_strs (P := X.prog) (w := X.w) hi).1] at S
    obtain ⟨l, l1, l2, rfl⟩ := S.count
    exact ⟨.ref s.heap.objs.size, _, I.laid (t' := tk) keep (Nat.le_refl _) (setX_new S), rfl, q _ l l1 (fun k => by rw [l2, decide_eq_true_eq]) (I.hok.fresh (Nat.le_refl _))⟩
  rcases hq with hq | hq
  · obtain ⟨its, rv, pl, hz⟩ := I.list hq
    have hi := strsAre_of rv
    exact call_setL (I.ok.hd hc) pl.isList (by rw [List.toList_toArray]; exact (keys_strs hi).2) (by rw [List.toList_toArray, ← rv.length, List.length_map]; exact room) (fin its hi)
  · obtain ⟨its, rv, pt, hz⟩ := I.tuple hq
    have hi := strsAre_of rv
    exact call_setT (I.ok.hd hc) pt (by rw [List.toList_toArray]; exact (keys_strs hi).2) (by rw [List.toList_toArray, ← rv.length, List.length_map]; exact room) (fin its hi)
end
end Dw

/-! DwSetD: sorted(set(..)), len(set(..)) over data. -/
namespace Dw
open PySem PySem.Spec PyProof.Rows L2
theorem len_subI {α : Type} [DecidableEq α] : ∀ {l B : List α}, l.Nodup → (∀ x ∈ l, x ∈ B) → l.length ≤ B.length
  | [], _, _, _ => Nat.zero_le _
  | x :: l, B, nd, h => by
    obtain ⟨n1, n2⟩ := List.nodup_cons.mp nd
    have hx := h x List.mem_cons_self
    have z := len_subI (l := l) (B := B.erase x) n2 fun y hy => (List.mem_erase_of_ne fun e => n1 (by rw [← e]; exact hy)).mpr (h y (List.mem_cons_of_mem _ hy))
    rw [List.length_erase_of_mem hx] at z
    have p := List.length_pos_of_mem hx
    show l.length + 1 ≤ _
    omega
section
variable {M : Md} {O : List Addr} {r : List Sl} {k : D → Prop} {te : TE} {P : Program} {w : World}
theorem de_sortedSetI (h : De M te O r fun x => ∃ ns : List Int, (x = .lst (ns.map D.int) ∨ x = .tup (ns.map D.int)) ∧ ns.length + 1 < scanBound ∧ (∃ B : List Int, B.length < 64 ∧ ∀ n ∈ ns, n ∈ B) ∧
      ∀ ys : List Int, ys.Pairwise (· < ·) → (∀ k, k ∈ ys ↔ k ∈ ns) → k (.lst (ys.map D.int))) :
    De M (tCB (rSortedSet w) (tCons (tCB (rSetI M.K w) (tCons te tNil)) tNil)) O r k := fun σ H Q R z => h σ H _ R fun v H1 x R1 e1 p1 q => by
  obtain ⟨ns, c, room, ⟨B, hB, sub⟩, q⟩ := q
  have seq : ∃ p, v = .ref p ∧ (SqL M.K H1 p (ns.map V.int) ∨ SqT M.K H1 p (ns.map V.int)) := by
    rcases c with rfl | rfl
    · obtain ⟨a, vs, rfl, h1, h2⟩ := p1
      rw [repL_ints h2] at h1
      exact ⟨a, rfl, .inl h1.sq⟩
    · obtain ⟨a, vs, rfl, h1, h2⟩ := p1
      rw [repL_ints h2] at h1
      exact ⟨a, rfl, .inr h1.sq⟩
  obtain ⟨p, rfl, sq⟩ := seq
  refine ⟨p, ns, rfl, sq, room, fun q' l l1 l2 hq => ?_⟩
  refine ⟨q', _, _, rfl, upd_same, Nat.lt_of_le_of_lt (len_subI l1 fun y hy => sub y ((l2 y).1 hy)) hB, fun ys p' y1 y2 _ hp => ?_⟩
  have R2 := R1.grow (sm_new (o := SetO w q' (fun j => decide (j ∈ ns)) l.length) hq)
  exact z (.ref p') _ (.lst (ys.map D.int)) (R2.grow (sm_new hp)) ((e1.trans (sm_0 (sm_new hq))).trans (sm_0 (sm_new hp))) (rep_lst R2 hp (repL_of_ints ys)) (q ys y1 fun k => by rw [y2, decide_eq_true_eq])
theorem de_sortedSetS (h : De M te O r fun x => ∃ ns : List Str, (x = .lst (ns.map D.str) ∨ x = .tup (ns.map D.str)) ∧ ns.length + 1 < scanBound ∧ (∃ B : List Str, B.length < 64 ∧ ∀ n ∈ ns, n ∈ B) ∧
      ∀ ys : List Str, ys.Nodup → sortedS ys = true → (∀ k, k ∈ ys ↔ k ∈ ns) → k (.lst (ys.map D.str))) :
    De M (tCB (rSortedX P w) (tCons (tCB (rSetS M.K P w) (tCons te tNil)) tNil)) O r k := fun σ H Q R z => h σ H _ R fun v H1 x R1 e1 p1 q => by
  obtain ⟨ns, c, room, ⟨B, hB, sub⟩, q⟩ := q
  have seq : ∃ p, v = .ref p ∧ (SqL M.K H1 p (ns.map V.str) ∨ SqT M.K H1 p (ns.map V.str)) := by
    rcases c with rfl | rfl
    · obtain ⟨a, vs, rfl, h1, h2⟩ := p1
      rw [repL_strs_of h2] at h1
      exact ⟨a, rfl, .inl h1.sq⟩
    · obtain ⟨a, vs, rfl, h1, h2⟩ := p1
      rw [repL_strs_of h2] at h1
      exact ⟨a, rfl, .inr h1.sq⟩
  obtain ⟨p, rfl, sq⟩ := seq
  refine ⟨p, ns, rfl, sq, room, fun q' l l1 l2 hq => ?_⟩
  refine ⟨q', _, _, rfl, upd_same, Nat.lt_of_le_of_lt (len_subI l1 fun y hy => sub y ((l2 y).1 hy)) hB, fun ys p' y0 y1 y2 _ hp => ?_⟩
  have R2 := R1.grow (sm_new (o := SetX P w q' (fun j => decide (j ∈ ns)) l.length) hq)
  exact z (.ref p') _ (.lst (ys.map D.str)) (R2.grow (sm_new hp)) ((e1.trans (sm_0 (sm_new hq))).trans (sm_0 (sm_new hp))) (rep_lst R2 hp (strs_repL ys)) (q ys y0 y1 fun k => by rw [y2, decide_eq_true_eq])
end
end Dw

/-! Wp13: rules in the form that the generator uses. -/
namespace Dw
open PySem PySem.Spec PyProof.Rows L2
def rSortedA (K : PySem.W.Frag) : List V → Hp → VK → Prop := fun xs H Q => rSortedW K xs H Q ∨ rSortedDt K xs H Q
theorem cr_sortedA {X : Cx} (hu : X.A.units + 64 < cLine) : CallR X (.builtin "sorted") (rSortedA X.K) := CallR.or cr_sortedW (cr_sortedDt hu)
def W.sortedA (ds : List D) (k : D → Prop) : Prop := W.sorted ds k ∨ W.sortedDt ds k
theorem l_sortedA {K : PySem.W.Frag} : LiftL K (rSortedA K) W.sortedA := fun N H ds vs k Q hN p w z => w.imp (fun w => l_sorted N H ds vs k Q hN p w z) fun w => l_sortedDt N H ds vs k Q hN p w z
/-- one more part of an f-string -/
def W.cat (acc : Str) (d : D) (k : Str → Prop) : Prop := ∃ s, d = .str s ∧ s.length ≤ sizeLine ∧ (acc ++ s).length ≤ sizeLine ∧ k (acc ++ s)
section
variable {M : Md} {O : List Addr} {r : List Sl} {te : TE} {ts : List TE} {acc : Str}
theorem dj_lit {k : Str → Prop} (h : De M te O r fun d => W.cat acc d fun a => Dj M ts a O r k) : Dj M (te :: ts) acc O r k := dj_cons (h.imp fun d ⟨s, e, _, hz, q⟩ => ⟨s, e, hz, q⟩)
theorem dj_fmt {k : Str → Prop} (h : De M te O r fun d => W.cat acc d fun a => Dj M ts a O r k) : Dj M (tFmt te :: ts) acc O r k := dj_cons fun σ H Q R z => by
  refine h σ H _ R fun v H1 d R1 e1 p1 ⟨s, e, hs, hz, q⟩ => ?_
  subst e
  obtain rfl := (show v = .str s from p1)
  exact .inl ⟨s, rfl, hs, z (.str s) H1 (.str s) R1 e1 rfl ⟨s, rfl, hz, q⟩⟩
theorem W.cat.imp {d : D} {k k' : Str → Prop} (h : W.cat acc d k) (i : ∀ a, k a → k' a) : W.cat acc d k' := by
  obtain ⟨s, e, h1, h2, q⟩ := h
  exact ⟨s, e, h1, h2, i _ q⟩
theorem W.sumL.go {x y : D} {k : D → Prop} (h : W.sumL x y k) : W.sumL x y k := h
end
/-- own.extend(d) -/
def W.ext (xs : List D) (d : D) (k : List D → Prop) : Prop := ∃ ys, d = .lst ys ∧ xs.length + ys.length ≤ sizeLine ∧ k ys
theorem W.ext.imp {xs : List D} {d : D} {k k' : List D → Prop} (h : W.ext xs d k) (i : ∀ ys, k ys → k' ys) : ∃ ys, d = .lst ys ∧ xs.length + ys.length ≤ sizeLine ∧ k' ys := by
  obtain ⟨ys, e, hz, q⟩ := h
  exact ⟨ys, e, hz, i ys q⟩
/-- sorted(set(x)): numbers, texts -/
def W.sortedSetI (x : D) (k : D → Prop) : Prop := ∃ ns : List Int, (x = .lst (ns.map D.int) ∨ x = .tup (ns.map D.int)) ∧ ns.length + 1 < scanBound ∧ (∃ B : List Int, B.length < 64 ∧ ∀ n ∈ ns, n ∈ B) ∧ ∀ ys : List Int, ys.Pairwise (· < ·) → (∀ k, k ∈ ys ↔ k ∈ ns) → k (.lst (ys.map D.int))
def W.sortedSetS (x : D) (k : D → Prop) : Prop := ∃ ns : List Str, (x = .lst (ns.map D.str) ∨ x = .tup (ns.map D.str)) ∧ ns.length + 1 < scanBound ∧ (∃ B : List Str, B.length < 64 ∧ ∀ n ∈ ns, n ∈ B) ∧ ∀ ys : List Str, ys.Nodup → sortedS ys = true → (∀ k, k ∈ ys ↔ k ∈ ns) → k (.lst (ys.map D.str))
section
variable {M : Md} {O : List Addr} {r : List Sl} {k : D → Prop} {te : TE} {P : Program} {w : World}
theorem e_sortedSetI (h : De M te O r fun x => W.sortedSetI x k) : De M (tCB (rSortedSet w) (tCons (tCB (rSetI M.K w) (tCons te tNil)) tNil)) O r k := de_sortedSetI h
theorem e_sortedSetS (h : De M te O r fun x => W.sortedSetS x k) : De M (tCB (rSortedX P w) (tCons (tCB (rSetS M.K P w) (tCons te tNil)) tNil)) O r k := de_sortedSetS h
/-- isinstance by a table that says no more than the kit's -/
theorem e_isiC {kit : Value → Value → Option Bool} (hk : ∀ t u b, kit t u = some b → PySem.W.kitOne M.K t u = some b) {c : V} {u : Value} (hu : ClsV c u) (hc : ∀ C, kit (.ref C) u ≠ none → ClsT M.K C) (h : Dv M te O r fun d => W.isi kit u d k) : De M (tCB (rIsi M.K) (tCons te (tCons (tC c) tNil))) O r k := fun σ H Q R z => by
  refine h σ H _ R fun v H1 d R1 e1 p1 ⟨⟨b, hn, hk', q⟩⟩ => ?_
  exact ⟨v, c, d.tyV, u, b, rfl, hu, D.ty (fun C ns ds e => hc C (by subst e; show kit (D.tyV (.ins C ns ds)) u ≠ none; rw [hk']; exact fun z => nomatch z)) hn p1.s, hk _ _ _ hk', z (.bl b) H1 (.bl b) R1 e1 rfl q⟩
/-- the kit's table, at one class and what is no class of a program -/
def kitAt (K : PySem.W.Frag) (R : Addr) (t u : Value) : Option Bool := match t with
  | .ref C => if C = R then PySem.W.kitOne K t u else none
  | _ => PySem.W.kitOne K t u
theorem kitAt_le {K : PySem.W.Frag} {R : Addr} (t u : Value) (b : Bool) (h : kitAt K R t u = some b) : PySem.W.kitOne K t u = some b := by
  unfold kitAt at h
  split at h
  · split at h
    · exact h
    · cases h
  · exact h
theorem kitAt_ref {K : PySem.W.Frag} {R : Addr} {u : Value} {p : Addr → Prop} (hp : p R) (C : Addr) (h : kitAt K R (.ref C) u ≠ none) : p C := by
  by_cases e : C = R
  · rw [e]
    exact hp
  · exact absurd (if_neg e) h
theorem kitAt_self {K : PySem.W.Frag} {R : Addr} : kitAt K R (.ref R) (.ref R) = some true := by
  have e : ((Value.ref R : Value) == .ref R) = true := by simp
  show (if R = R then PySem.W.kitOne K (.ref R) (.ref R) else none) = some true
  rw [if_pos rfl]
  unfold PySem.W.kitOne
  rw [if_pos e]
theorem kitAt_bool {K : PySem.W.Frag} {R : Addr} : kitAt K R (.type "bool") (.type "bool") = some true := by
  show PySem.W.kitOne K (.type "bool") (.type "bool") = some true
  unfold PySem.W.kitOne
  rw [if_pos (by simp)]
end
theorem FnOk.raw0 {P : Program} {w : World} {K : PySem.W.Frag} {mg : Str → Option Value} {base : Heap} {k : Nat} {f : Addr} {sp : Sp} {fd : FuncData} {ps : List Str} (F : FnOk P w K mg base CX0 k f fd ps sp) (b : Binds K fd ps []) : FnR P w K mg base CX0 k f sp :=
  fun A outer s H us vs Q E hr e0 r h => L2.FnOk.raw F b .nil A outer s H us vs Q E hr e0 r (by show sp (vs ++ []) H Q E; rw [List.append_nil]; exact h)
theorem pass0N {X : Cx} {E : XK} : Passes CX0 X.nox E := fun pins σ H s e s' I h => h.elim
theorem W.obj.imp {cs : List Addr} {m : Str} {d : D} {k k' : Prop} (h : W.obj cs m d k) (i : k → k') : W.obj cs m d k' := by
  obtain ⟨C, ns, ds, h1, h2, h3, q⟩ := h
  exact ⟨C, ns, ds, h1, h2, h3, i q⟩
theorem ini_last {K : PySem.W.Frag} {C : Addr} {ts : TS} {ns : List Str} {ds : List D} {r : List Sl} {E : List Str → List D → List Sl → Prop} (h : DIn K C (tSeq ts tNext) ns ds r E) : DIn K C ts ns ds r E := h
theorem W.join_go {α : Type} {f : (α → Prop) → Prop} {g : α → Prop} (h : W.join f g) : f g := h
/-- a truth value, a text, a truth value turned -/
def W.isBl (k : D → Prop) (d : D) : Prop := ∃ t, d = .bl t ∧ k (.bl t)
def W.isTx (k : D → Prop) (d : D) : Prop := ∃ t, d = .str t ∧ k (.str t)
def W.isNo (k : D → Prop) (d : D) : Prop := ∃ t, d = .bl t ∧ k (.bl (!t))
section
variable {M : Md} {O : List Addr} {r : List Sl} {k : D → Prop} {ta tb te : TE} {E : XK} {w : List D → (D → Prop) → Prop} {C : Addr}
theorem e_neO' (h : De M ta O r fun x => De M tb O r fun y => (∃ ns ds, x = .ins C ns ds) ∧ (∃ ms es, y = .ins C ms es) ∧ w [x, y] (W.isNo k)) : De M (tOp (rNeO C (SpP0 M.K w) E) ta tb) O r k := e_neO h
theorem e_reprO' (h : De M te O r fun x => (∃ ns ds, x = .ins C ns ds) ∧ w [x] (W.isTx k)) : De M (tCB (rRepO C (SpP0 M.K w) E) (tCons te tNil)) O r k := e_reprO h
theorem e_boolC' (h : De M te O r fun x => (∃ ns ds, x = .ins C ns ds) ∧ w [x] (W.isBl k)) : De M (tCB (rBoolC C (SpP0 M.K w) E) (tCons te tNil)) O r k := e_boolC h
end
def W.nt (b : Bool) (k : Bool → Prop) : Prop := k (!b)
theorem t_not {M : Md} {O : List Addr} {r : List Sl} {tt : TT} {k : Bool → Prop} (h : DT M tt O r fun b => W.nt b k) : DT M (tNot tt) O r k := dt_not h
end Dw

/-! Wp14: comprehensions with two fors. -/
namespace Dw
open PySem PySem.Spec PyProof.Rows L2
/-- the inner walk's items, put behind what there is -/
def W.comp1 (ib : D → (Option D → Prop) → Prop) : List D → List D → (List D → Prop) → Prop
  | [], acc, n => n acc
  | y :: ys, acc, n => ib y fun o => match o with
    | none => W.comp1 ib ys acc n
    | some d => acc.length < sizeLine ∧ W.comp1 ib ys (acc ++ [d]) n
/-- the outer walk: each turn puts some items behind -/
def W.comp2 (ob : D → List D → (List D → Prop) → Prop) : List D → List D → (D → Prop) → Prop
  | [], acc, k => k (.lst acc)
  | x :: xs, acc, k => ob x acc fun acc' => W.comp2 ob xs acc' k
section
variable {M : Md} {O : List Addr} {r : List Sl} {k : D → Prop} {te : TE} {wi wi1 : TI} {vs vs1 : List Nat}
theorem Rp.poke {σ : L2.St} {H : Hp} {Dl : Addr} {l : List V} (R : Rp M (Dl :: O) r σ H) (nin : ∀ (j : Nat) (zs : List D), r[j]? ≠ some (.mu Dl zs)) : Rp M (Dl :: O) r σ (upd H Dl (.lst l)) := by
  have fp : M.H0 Dl = none := (R.own Dl (by simp)).1
  have e : Sm (nf M (Dl :: O)) H (upd H Dl (.lst l)) := fun a o n e => by
    rw [upd_ne fun z => n (.inr (by rw [z]; simp))]
    exact e
  refine ⟨fun a o n e => ?_, M.st H _ R.inv fun a o f e => ?_, fun a ha => ⟨(R.own a ha).1, ?_⟩, R.nod, R.len, fun j t ht => ?_, R.one⟩
  · rw [upd_ne (ne_of_none e fp)]
    exact R.sm a o n e
  · rw [upd_ne fun z => M.tr a (M.f0 a f) (by rw [z]; exact fp)]
    exact e
  · by_cases q : a = Dl
    · rw [q, upd_same]
      exact fun z => nomatch z
    · rw [upd_ne q]
      exact (R.own a ha).2
  · have h1 := R.slot j t ht
    cases t with
    | un => trivial
    | d x =>
      obtain ⟨u, e2, h2⟩ := h1
      exact ⟨u, e2, h2.mono e⟩
    | mu l zs =>
      obtain ⟨e2, hl, us, h2, h3⟩ := h1
      refine ⟨e2, hl, us, ?_, h3.mono e⟩
      rw [upd_ne fun z => nin j zs (by rw [← z]; exact ht)]
      exact h2
theorem wipeR_mu {p : Addr} {zs : List D} : ∀ {vs : List Nat} {r : List Sl} {j : Nat}, (wipeR r vs)[j]? = some (.mu p zs) → r[j]? = some (.mu p zs)
  | [], r, j, h => h
  | i :: vs, r, j, h => by
    have h : ((wipeR r vs).set i .un)[j]? = some (.mu p zs) := h
    rw [List.getElem?_set] at h
    split at h
    · split at h <;> cases h
    · exact wipeR_mu h
theorem drop_cons {α : Type} {l : List α} {i : Nat} (h : i < l.length) : l.drop i = l[i] :: l.drop (i + 1) := List.drop_eq_getElem_cons h
/-- [te for i1 in wi for i2 in wi1] -/
theorem e_comp2 {i1 i2 : Nat} (ob : D → List D → (List D → Prop) → Prop) (ib : D → D → (Option D → Prop) → Prop) (h1 : i1 ∈ vs) (h2 : i2 ∈ vs1) (h : DI M wi O r fun xs => W.comp2 ob xs [] k)
    (step : ∀ (O' : List Addr) (x : D) (acc : List D) (n : List D → Prop), ob x acc n → DI M wi1 O' ((wipeR r vs).set i1 (.d x)) fun ys => W.comp1 (ib x) ys acc n)
    (step1 : ∀ (O' : List Addr) (x y : D) (q : Option D → Prop), ib x y q → De M te O' ((wipeR ((wipeR r vs).set i1 (.d x)) vs1).set i2 (.d y)) fun d => q (some d)) :
    De M (tLc2 wi (gName i1) tYes wi1 (gName i2) tYes te vs vs1) O r k := fun σ H Q R0 z => by
  refine h σ H _ R0 fun J H1 xs Wx R1 e1 g1 q => ?_
  intro Dl hD
  have GD : Wx.G (nf M (Dl :: O)) (upd H1 Dl (.lst [])) := Wx.mono _ _ _ (sm_0 (sm_new hD)) (Wx.gen _ _ _ (fun a ha => (plus_of a ha).imp id fun z => by rw [z]; exact hD) g1)
  have nin : ∀ (j : Nat) (zs : List D), r[j]? ≠ some (.mu Dl zs) := fun j zs e => (R1.own Dl (R1.slot j _ e).2.1).2 hD
  refine ⟨fun i m H2 => m = xs.length - i ∧ i ≤ xs.length ∧ ∃ ys acc, W.comp2 ob (xs.drop i) ys k ∧ H2 Dl = some (.lst acc) ∧ RepL M.K (nf M (Dl :: O)) H2 ys acc ∧ Rp M (Dl :: O) r σ H2 ∧ Sm M.F0 H1 H2 ∧ Wx.G (nf M (Dl :: O)) H2,
    ⟨xs.length, by simp, Nat.zero_le _, [], [], q, upd_same, .nil, R1.own1 hD, sm_0 (sm_new hD), GD⟩, ?_⟩
  rintro i m H2 ⟨rfl, hi, ys, acc, hR, hd, pa, R2, e2, g2⟩
  have nD : ¬ M.F0 Dl := fun z => M.tr Dl (M.f0 Dl z) (R2.own Dl (by simp)).1
  by_cases hlt : i < xs.length
  · refine .inr ⟨Wx.go _ _ i g2 hlt, _, fun H' p => ⟨xs.length - (i + 1), by omega, rfl, hlt, p⟩, fun x H3 y => ?_⟩
    obtain ⟨s3, p3⟩ := Wx.yld _ _ i x H3 _ (nf_tr R2) g2 y (List.getElem?_eq_getElem hlt)
    have R3 := R2.grow s3
    rw [drop_cons hlt] at hR
    have hb : ob xs[i] ys fun acc' => W.comp2 ob (xs.drop (i + 1)) acc' k := hR
    refine dg_name (k := fun r4 => r4 = (wipeR r vs).set i1 (.d xs[i])) rfl x _ H3 _ (R3.wipe vs) p3 fun σ4 r4 R4 w4 er => ⟨?_, ?_⟩
    · rw [w4 vs (fun j hj => by rw [List.mem_singleton.mp hj]; exact h1), wipe_wipe fun _ h => h]
    · subst er
      show wi1 σ4 H3 _
      have nin4 : ∀ (j : Nat) (zs : List D), ((wipeR r vs).set i1 (.d xs[i]))[j]? ≠ some (.mu Dl zs) := fun j zs e => by
        rw [List.getElem?_set] at e
        split at e
        · split at e <;> cases e
        · exact nin j zs (wipeR_mu e)
      refine step (Dl :: O) _ ys _ hb σ4 H3 _ R4 fun J1 H6 xs1 W1 R6 e6 g6 c1 => ?_
      have e26 : Sm M.F0 H2 H6 := (sm_0 s3).trans e6
      refine ⟨fun j k' H7 => k' = xs1.length - j ∧ j ≤ xs1.length ∧ ∃ zs acc', W.comp1 (ib xs[i]) (xs1.drop j) zs (fun acc' => W.comp2 ob (xs.drop (i + 1)) acc' k) ∧ H7 Dl = some (.lst acc') ∧ RepL M.K (nf M (Dl :: O)) H7 zs acc' ∧ Rp M (Dl :: O) r σ H7 ∧ Rp M (Dl :: O) ((wipeR r vs).set i1 (.d xs[i])) σ4 H7 ∧ Sm M.F0 H1 H7 ∧ Wx.G (nf M (Dl :: O)) H7 ∧ W1.G (nf M (Dl :: O)) H7,
        ⟨xs1.length, by simp, Nat.zero_le _, ys, acc, c1, e26 Dl _ nD hd, pa.step e26, R2.step e26 R6.inv, R6, e2.trans e26, Wx.mono _ _ _ (e26.wide nf0) g2, g6⟩, ?_⟩
      rintro j k' H7 ⟨rfl, hj, zs, acc', c7, hd7, pa7, Ro7, R7, e7, g7, g17⟩
      by_cases hjl : j < xs1.length
      · refine .inr ⟨W1.go _ _ j g17 hjl, _, fun H' p => ⟨xs1.length - (j + 1), by omega, rfl, hjl, p⟩, fun x1 H8 y1 => ?_⟩
        obtain ⟨s8, p8⟩ := W1.yld _ _ j x1 H8 _ (nf_tr R7) g17 y1 (List.getElem?_eq_getElem hjl)
        have R8 := R7.grow s8
        rw [drop_cons hjl] at c7
        refine dg_name (k := fun r9 => r9 = (wipeR ((wipeR r vs).set i1 (.d xs[i])) vs1).set i2 (.d xs1[j])) rfl x1 _ H8 _ (R8.wipe vs1) p8 fun σ9 r9 R9 w9 er9 => ⟨?_, ?_⟩
        · rw [w9 vs1 (fun j hj => by rw [List.mem_singleton.mp hj]; exact h2), wipe_wipe fun _ h => h]
        · subst er9
          show te σ9 H8 _
          refine step1 (Dl :: O) _ _ _ c7 σ9 H8 _ R9 fun v H11 d R11 e11 p11 q11 => ?_
          have e711 : Sm M.F0 H7 H11 := (sm_0 s8).trans e11
          have q11 : zs.length < sizeLine ∧ W.comp1 (ib xs[i]) (xs1.drop (j + 1)) (zs ++ [d]) _ := q11
          have pa11 := pa7.step e711
          have e : Sm (nf M (Dl :: O)) H11 (upd H11 Dl (.lst (acc' ++ [v]))) := fun a o n e => by
            rw [upd_ne fun z => n (.inr (by rw [z]; simp))]
            exact e
          refine ⟨acc', e711 Dl _ nD hd7, by rw [← pa7.length]; exact q11.1, zs ++ [d], acc' ++ [v], q11.2, upd_same, (pa11.append (.one p11)).mono e, (Ro7.step e711 R11.inv).poke nin, (R7.step e711 R11.inv).poke nin4, fun a o n e => ?_, Wx.mono _ _ _ (fun a o n e => ?_) g7, W1.mono _ _ _ (fun a o n e => ?_) g17⟩
          · have ea := e7.trans e711 a o n e
            rw [upd_ne (ne_of_none e hD)]
            exact ea
          · rw [upd_ne fun z => n (.inr (by rw [z]; simp))]
            exact e711 a o (fun z => n (nf0 a z)) e
          · rw [upd_ne fun z => n (.inr (by rw [z]; simp))]
            exact e711 a o (fun z => n (nf0 a z)) e
      · have ej : j = xs1.length := by omega
        subst ej
        rw [List.drop_length] at c7
        exact .inl ⟨W1.stop _ _ _ g17 (Nat.le_refl _), zs, acc', c7, hd7, pa7, Ro7, e7, g7⟩
  · have e : i = xs.length := by omega
    subst e
    refine .inl ⟨Wx.stop _ _ _ g2 (Nat.le_refl _), ?_⟩
    have w : ∀ a, nf M O a → nf M (Dl :: O) a := fun a ha => ha.imp id (List.mem_cons_of_mem _)
    rw [List.drop_length] at hR
    exact z (.ref Dl) H2 (.lst ys) (R1.step e2 R2.inv) (e1.trans e2) ⟨Dl, acc, rfl, .inl ⟨new_no R1 hD, .inl hd⟩, pa.less w⟩ hR
end
end Dw

/-! Wp15: a class with an own == and no !=. -/
namespace Dw
open PySem PySem.Spec PyProof.Rows L2
def neIn (K : PySem.W.Frag) (C f : Addr) : Bool := match K.lookup C with
  | some ⟨.type "type", _, .cls cd, sl⟩ => (match cd.mro, sl.toList with
    | .ref C' :: bm, [_, _, _, _, some (.builtin _), _] => C' == C && bm == [.type "object"] && !cd.hasDel && PySem.W.nsOkIn K cd.ns && PySem.W.nsIn K cd.ns "__ne__" == some none && PySem.W.nsIn K cd.ns "__eq__" == some (some (.ref f)) && PySem.W.isFn K (.ref f)
    | _, _ => false)
  | _ => false
theorem ns_some_of {K : PySem.W.Frag} {h : Heap} {N : Addr} {mg : Str → Option Value} {n : Str} {v : Value} (X : K.In h) (G : h.Ns N mg) (e : PySem.W.nsIn K N n = some (some v)) : mg n = some v := by
  obtain ⟨o, es, ep, ho, hd, _, hf⟩ := G
  unfold PySem.W.nsIn at e
  split at e
  · rename_i c d es' n' sl q
    have := X _ _ q
    rw [ho] at this
    cases this
    cases hd
    split at e
    · rename_i en he
      cases e
      rw [← hf]
      unfold nsFind findBy
      rw [← Array.find?_toList, he]
      rfl
    · split at e <;> cases e
  · cases e
theorem fn_obj {K : PySem.W.Frag} {h : Heap} {f : Addr} (X : K.In h) (e : PySem.W.isFn K (.ref f) = true) : ∃ o, h.get? f = some o ∧ o.cls = .type "function" := by
  have e : PySem.W.typeIn K (.ref f) = some (.type "function") := by
    unfold PySem.W.isFn at e
    exact beq_iff_eq.mp e
  unfold PySem.W.typeIn at e
  simp only at e
  cases q : K.lookup f with
  | none =>
    rw [q] at e
    cases e
  | some o =>
    rw [q] at e
    exact ⟨o, X _ _ q, Option.some.inj e⟩
theorem own_ne {K : PySem.W.Frag} {C f : Addr} (q : neIn K C f = true) (h : Heap) (a dx : Addr) (X : K.In h) (ha : h.get? a = some (PySem.W.instObj C dx)) : h.OwnEqNoNe a C f "object" [.type "object"] := by
  unfold neIn at q
  split at q
  · rename_i dd cd sl ho
    split at q
    · rename_i C' bm k0 k1 k2 k3 n k5 hm hs
      simp only [Bool.and_eq_true, beq_iff_eq, Bool.not_eq_true'] at q
      obtain ⟨⟨⟨⟨⟨⟨rfl, rfl⟩, hdel⟩, hok⟩, hne⟩, heq⟩, hfn⟩ := q
      obtain ⟨nm, bs, mro, ns, qn, hd, sn, sub, ab, col, del⟩ := cd
      dsimp only at hm hdel hok hne heq
      subst hm hdel
      have hsl : sl = #[k0, k1, k2, k3, some (.builtin n), k5] := by
        obtain ⟨l⟩ := sl
        simp only at hs
        rw [hs]
      subst hsl
      have G : h.Ns ns (h.nsMap ns) := .of_isNs (PySem.W.isNs_of_in X hok)
      obtain ⟨of, hof, hcf⟩ := fn_obj X hfn
      exact ⟨_, of, nm, qn, ns, bs, hd, sn, sub, ab, col, dd, k0, k1, k2, k3, k5, n, h.nsMap ns, some (.builtin "object.__eq__"), ha, rfl, X _ _ ho, G, ns_some_of X G heq, hof, hcf, PySem.F.mro_object, by rw [typeLookup_type, builtinLookup_eq_fast]; kernel_rfl, PySem.W.ns_none_of X G hne⟩
    · cases q
  · cases q
end Dw

/-! Wp17: a new row of new rows; all its lists cleared. -/
namespace Dw
open PySem PySem.Spec PyProof.Rows L2
mutual
/-- no list in it -/
def D.noL : D → Bool
  | .non => true
  | .bl _ => true
  | .int _ => true
  | .str _ => true
  | .ref _ => false
  | .lst _ => false
  | .tup xs => D.noLL xs
  | .ins _ _ xs => D.noLL xs
  | .exc _ _ _ => false
def D.noLL : List D → Bool
  | [] => true
  | d :: ds => d.noL && D.noLL ds
end
/-- H' is H, but for lists -/
def OnlyL (H H' : Hp) : Prop := ∀ a, H' a ≠ H a → ∃ us, H a = some (.lst us)
theorem OnlyL.keep {H H' : Hp} (h : OnlyL H H') {a : Addr} {o : HO} (e : H a = some o) (n : ∀ us, o ≠ .lst us) : H' a = some o := by
  by_cases q : H' a = H a
  · rw [q]
    exact e
  · obtain ⟨us, e2⟩ := h a q
    rw [e] at e2
    exact absurd (Option.some.inj e2) (n us)
theorem OnlyL.rdT {H H' : Hp} (h : OnlyL H H') {a : Addr} {xs : List V} (r : Rd H a (.tup xs)) : Rd H' a (.tup xs) := by
  rcases r with r | ⟨o, r⟩
  · exact .inl (h.keep r fun us z => nomatch z)
  · exact .inr ⟨o, h.keep r fun us z => nomatch z⟩
theorem OnlyL.sqT {K : PySem.W.Frag} {H H' : Hp} (h : OnlyL H H') {a : Addr} {xs : List V} (r : SqT K H a xs) : SqT K H' a xs := by
  rcases r with r | r
  · exact .inl (h.rdT r)
  · exact .inr r
mutual
theorem rep_noL {K : PySem.W.Frag} {N : No} {H H' : Hp} (h : OnlyL H H') : ∀ {d : D} {v : V}, d.noL = true → Rep K N H d v → Rep K N H' d v
  | .non, _, _, r => r
  | .bl _, _, _, r => r
  | .int _, _, _, r => r
  | .str _, _, _, r => r
  | .ref _, _, n, _ => nomatch n
  | .lst _, _, n, _ => nomatch n
  | .exc _ _ _, _, n, _ => nomatch n
  | .tup ds, _, n, ⟨a, vs, e, t, r⟩ => by
    refine ⟨a, vs, e, ?_, repL_noL h (ds := ds) n r⟩
    rcases t with ⟨na, t⟩ | t
    · exact .inl ⟨na, h.rdT t⟩
    · exact .inr t
  | .ins C ns ds, _, n, ⟨a, dx, vs, e, n1, n2, t1, t2, l, r⟩ => ⟨a, dx, vs, e, n1, n2, h.keep t1 fun us z => (nomatch z), h.keep t2 fun us z => (nomatch z), l, repL_noL h (ds := ds) n r⟩
theorem repL_noL {K : PySem.W.Frag} {N : No} {H H' : Hp} (h : OnlyL H H') : ∀ {ds : List D} {vs : List V}, D.noLL ds = true → RepL K N H ds vs → RepL K N H' ds vs
  | [], _, _, r => r
  | d :: ds, _, n, ⟨v, t, e, r1, r2⟩ => by
    have n : (d.noL && D.noLL ds) = true := n
    rw [Bool.and_eq_true] at n
    exact ⟨v, t, e, rep_noL h n.1 r1, repL_noL h n.2 r2⟩
end
/-- a row that is a new list, or a tuple -/
def RowF (K : PySem.W.Frag) (Ha H : Hp) (L : Addr) (d : D) (v : V) : Prop :=
  (∃ ss us z, d = .lst ss ∧ v = .ref z ∧ Ha z = none ∧ z ≠ L ∧ H z = some (.lst us)) ∨ ∃ ss us z, d = .tup ss ∧ v = .ref z ∧ SqT K H z us
section
variable {M : Md} {O : List Addr} {r : List Sl} {wi : TI} {te : TE} {vs : List Nat}
theorem RowF.step {Ha H H' : Hp} {L : Addr} {d : D} {v : V} {σ : L2.St} (i : M.I Ha) (e : Sm M.F0 H H') (h : RowF M.K Ha H L d v) (tup : ∀ z us, SqT M.K H z us → SqT M.K H' z us) : RowF M.K Ha H' L d v := by
  rcases h with ⟨ss, us, z, h1, h2, h3, h4, h5⟩ | ⟨ss, us, z, h1, h2, h3⟩
  · exact .inl ⟨ss, us, z, h1, h2, h3, h4, e z _ (fun f => M.tk Ha z i f h3) h5⟩
  · exact .inr ⟨ss, us, z, h1, h2, tup z us h3⟩
/-- an item: a new list, or a tuple -/
def DeE (M : Md) (te : TE) (O : List Addr) (r : List Sl) (k : D → Prop) : Prop :=
  ∀ σ H (Q : VK), Rp M O r σ H → (∀ v H' d, Rp M O r σ H' → Sm M.F0 H H' → Rep M.K (nf M O) H' d v → ((∃ ss us z, d = .lst ss ∧ v = .ref z ∧ H z = none ∧ H' z = some (.lst us)) ∨ ∃ ss, d = .tup ss) → k d → Q v H') → te σ H Q
/-- a row of such, new too -/
def DeF (M : Md) (te : TE) (O : List Addr) (r : List Sl) (k : List D → Prop) : Prop :=
  ∀ σ H (Q : VK), Rp M O r σ H → (∀ Dl acc H' hs, Rp M O r σ H' → Sm M.F0 H H' → H Dl = none → H' Dl = some (.lst acc) → RepL M.K (nf M O) H' hs acc → (∀ (i : Nat) (v : V), acc[i]? = some v → (∃ ss us z, hs[i]? = some (.lst ss) ∧ v = .ref z ∧ H z = none ∧ z ≠ Dl ∧ H' z = some (.lst us)) ∨ ∃ ss, hs[i]? = some (.tup ss)) → k hs → Q (.ref Dl) H') → te σ H Q
theorem deF_comp {ij : Nat} {k : List D → Prop} (body : D → (Option D → Prop) → Prop) (hj : ij ∈ vs) (h : DI M wi O r fun xs => xs.length < sizeLine ∧ W.comp body xs [] fun d => ∃ hs, d = .lst hs ∧ k hs)
    (step : ∀ (O' : List Addr) (x : D) (q : Option D → Prop), body x q → DeE M te O' ((wipeR r vs).set ij (.d x)) fun d => q (some d)) : DeF M (tLc wi (gName ij) tYes te vs) O r k := fun σ H Q R0 z => by
  refine h σ H _ R0 fun J H1 xs Wx R1 e1 g1 ⟨hz, q⟩ => ?_
  intro Dl hD
  have GD : Wx.G (nf M (Dl :: O)) (upd H1 Dl (.lst [])) := Wx.mono _ _ _ (sm_0 (sm_new hD)) (Wx.gen _ _ _ (fun a ha => (plus_of a ha).imp id fun z => by rw [z]; exact hD) g1)
  have nin : ∀ (j : Nat) (zs : List D), r[j]? ≠ some (.mu Dl zs) := fun j zs e => (R1.own Dl (R1.slot j _ e).2.1).2 hD
  have older : ∀ z, H1 z = none → H z = none := fun z hz1 => by
    cases eh : H z with
    | none => rfl
    | some o =>
      by_cases f : M.F0 z
      · exact absurd hz1 (M.tk H1 z R1.inv f)
      · rw [e1 z o f eh] at hz1
        cases hz1
  refine ⟨fun i m H2 => m = xs.length - i ∧ i ≤ xs.length ∧ ∃ ys acc, W.comp body (xs.drop i) ys (fun d => ∃ hs, d = .lst hs ∧ k hs) ∧ ys.length ≤ i ∧ H2 Dl = some (.lst acc) ∧ RepL M.K (nf M (Dl :: O)) H2 ys acc ∧ Rp M (Dl :: O) r σ H2 ∧ Sm M.F0 H1 H2 ∧ Wx.G (nf M (Dl :: O)) H2 ∧
      (∀ (i : Nat) (v : V), acc[i]? = some v → (∃ ss us z, ys[i]? = some (.lst ss) ∧ v = .ref z ∧ H z = none ∧ z ≠ Dl ∧ H2 z = some (.lst us)) ∨ ∃ ss, ys[i]? = some (.tup ss)),
    ⟨xs.length, by simp, Nat.zero_le _, [], [], q, Nat.le_refl _, upd_same, .nil, R1.own1 hD, sm_0 (sm_new hD), GD, fun i v e => (nomatch e)⟩, ?_⟩
  rintro i m H2 ⟨rfl, hi, ys, acc, hR, hy, hd, pa, R2, e2, g2, fr⟩
  have nD : ¬ M.F0 Dl := fun z => M.tr Dl (M.f0 Dl z) (R2.own Dl (by simp)).1
  by_cases hlt : i < xs.length
  · refine .inr ⟨Wx.go _ _ i g2 hlt, _, fun H' p => ⟨xs.length - (i + 1), by omega, rfl, hlt, p⟩, fun x H3 y => ?_⟩
    obtain ⟨s3, p3⟩ := Wx.yld _ _ i x H3 _ (nf_tr R2) g2 y (List.getElem?_eq_getElem hlt)
    have R3 := R2.grow s3
    rw [drop_cons hlt] at hR
    have hb : body xs[i] fun o => W.comp body (xs.drop (i + 1)) (ys ++ o.toList) _ := hR
    refine dg_name (k := fun r4 => r4 = (wipeR r vs).set ij (.d xs[i])) rfl x _ H3 _ (R3.wipe vs) p3 fun σ4 r4 R4 w4 er => ⟨?_, ?_⟩
    · rw [w4 vs (fun j hj' => by rw [List.mem_singleton.mp hj']; exact hj), wipe_wipe fun _ h => h]
    · subst er
      show te σ4 H3 _
      refine step (Dl :: O) _ _ hb σ4 H3 _ R4 fun v H6 d R6 e6 p6 kind q6 => ?_
      have e26 : Sm M.F0 H2 H6 := (sm_0 s3).trans e6
      have hd6 := e26 Dl _ nD hd
      have hd3 := s3 Dl _ (fun z => z) hd
      have pa6 := pa.step e26
      have e : Sm (nf M (Dl :: O)) H6 (upd H6 Dl (.lst (acc ++ [v]))) := fun a o n e => by
        rw [upd_ne fun z => n (.inr (by rw [z]; simp))]
        exact e
      refine ⟨acc, hd6, by rw [← pa.length]; omega, ys ++ [d], acc ++ [v], q6, by rw [List.length_append, List.length_singleton]; omega, upd_same, (pa6.append (.one p6)).mono e, (R2.step e26 R6.inv).poke nin, fun a o n e => ?_, Wx.mono _ _ _ (fun a o n e => ?_) g2, fun j w ej => ?_⟩
      · have ea := e2.trans e26 a o n e
        rw [upd_ne (ne_of_none e hD)]
        exact ea
      · rw [upd_ne fun z => n (.inr (by rw [z]; simp))]
        exact e26 a o (fun z => n (nf0 a z)) e
      · have hl := pa.length
        by_cases hj2 : j < acc.length
        · rw [List.getElem?_append_left hj2] at ej
          have hj3 : j < ys.length := by omega
          rw [List.getElem?_append_left hj3]
          rcases fr j w ej with ⟨ss, us, z, h1, h2, h3, h4, h5⟩ | h1
          · refine .inl ⟨ss, us, z, h1, h2, h3, h4, ?_⟩
            rw [upd_ne h4]
            exact e26 z _ (fun f => M.tk H z R0.inv f h3) h5
          · exact .inr h1
        · have ej2 : j = acc.length := by
            have := (List.getElem?_eq_some_iff.mp ej).1
            rw [List.length_append, List.length_singleton] at this
            omega
          subst ej2
          rw [List.getElem?_append_right (Nat.le_refl _), Nat.sub_self] at ej
          cases ej
          rw [List.getElem?_append_right (by omega), ← hl, Nat.sub_self]
          rcases kind with ⟨ss, us, z, h1, h2, h3, h4⟩ | ⟨ss, h1⟩
          · have zD : z ≠ Dl := fun q => by
              rw [q, hd3] at h3
              cases h3
            have h1z : H z = none := by
              refine older z ?_
              cases eh : H1 z with
              | none => rfl
              | some o =>
                by_cases f : M.F0 z
                · exact absurd h3 (M.tk H3 z R3.inv f)
                · have := (e2.trans (sm_0 s3)) z o f eh
                  rw [this] at h3
                  cases h3
            refine .inl ⟨ss, us, z, by rw [h1]; rfl, h2, h1z, zD, ?_⟩
            rw [upd_ne zD]
            exact h4
          · exact .inr ⟨ss, by rw [h1]; rfl⟩
  · have e : i = xs.length := by omega
    subst e
    refine .inl ⟨Wx.stop _ _ _ g2 (Nat.le_refl _), ?_⟩
    have w : ∀ a, nf M O a → nf M (Dl :: O) a := fun a ha => ha.imp id (List.mem_cons_of_mem _)
    rw [List.drop_length] at hR
    obtain ⟨hs, eh, hk⟩ := hR
    cases eh
    exact z Dl acc H2 ys (R1.step e2 R2.inv) (e1.trans e2) (older Dl hD) hd (pa.less w) fr hk
end
end Dw

/-! Wp18: a law's middle: rows handed over, two results without lists, a test, then the handed rows are cleared. -/
namespace Dw
open PySem PySem.Spec PyProof.Rows L2
theorem set_set_self {α : Type} {l : List α} {i : Nat} {x y : α} : (l.set i x).set i y = l.set i y := by simp
/-- the loop that clears what is a list -/
def tClear (K : PySem.W.Frag) (i : Nat) : TS := tDrop (tBM0 K "list" rClear (tVar i))
def tIsL (K : PySem.W.Frag) (i : Nat) : TT := tB (tCB (rIsi K) (tCons (tVar i) (tCons (tC (.ty "list")) tNil)))
section
variable {M : Md} {r : List Sl} {E : Kn}
theorem kit_list {K : PySem.W.Frag} : PySem.W.kitOne K (.type "list") (.type "list") = some true := by
  unfold PySem.W.kitOne
  rw [if_pos (by simp)]
/-- what is between the rows' making and the end of the clearing -/
structure Apart (Ha H : Hp) (h : Addr) (H' : Hp) : Prop where
  only : OnlyL H H'
  new : ∀ a, H' a ≠ H a → Ha a = none
  stay : ∀ a, H a ≠ none → H' a ≠ none
  row : H' h = H h
  list : ∀ a us, H a = some (.lst us) → ∃ us', H' a = some (.lst us')
theorem Apart.refl {Ha H : Hp} {h : Addr} : Apart Ha H h H := ⟨fun a q => absurd rfl q, fun a q => absurd rfl q, fun _ q => q, rfl, fun a us e => ⟨us, e⟩⟩
theorem Apart.clear {Ha H H' : Hp} {h z : Addr} {us : List V} (p : Apart Ha H h H') (e : H z = some (.lst us)) (n : Ha z = none) (zh : z ≠ h) : Apart Ha H h (upd H' z (.lst [])) := by
  refine ⟨fun a q => ?_, fun a q => ?_, fun a q => ?_, ?_, fun a us' ea => ?_⟩
  · by_cases ez : a = z
    · exact ⟨us, by rw [ez]; exact e⟩
    · rw [upd_ne ez] at q
      exact p.only a q
  · by_cases ez : a = z
    · rw [ez]
      exact n
    · rw [upd_ne ez] at q
      exact p.new a q
  · by_cases ez : a = z
    · rw [ez, upd_same]
      exact fun w => nomatch w
    · rw [upd_ne ez]
      exact p.stay a q
  · rw [upd_ne fun q => zh q.symm]
    exact p.row
  · by_cases ez : a = z
    · exact ⟨[], by rw [ez, upd_same]⟩
    · obtain ⟨u, eu⟩ := p.list a us' ea
      exact ⟨u, by rw [upd_ne ez]; exact eu⟩
theorem raw_forL {K : PySem.W.Frag} {a : Addr} {xs : List V} {g : TG} {tb ts : TS} {Z : Ends} {σ : L2.St} {H : Hp} {ih : Nat} (hv : σ[ih]? = some (some (.ref a))) (hq : SqL K H a xs) (Pv : Nat → L2.St → Hp → Prop) (h0 : Pv 0 σ H) (hl : ∀ i σ H, i ≤ xs.length → Pv i σ H → SqL K H a xs)
    (hs : ∀ i x σ H, xs[i]? = some x → Pv i σ H → g x σ H fun σ2 H2 => tb { nx := Pv (i + 1), rt := Z.rt, bk := ts Z, ct := Pv (i + 1) } σ2 H2) (hd : ∀ σ H, Pv xs.length σ H → ts Z σ H) : tSeq (tFor (iSeq K (tVar ih)) g tb) ts Z σ H := by
  have w := for_list (K := K) (a := a) (xs := xs) (g := g) (tb := tb) (D := { Z with nx := ts Z }) Pv h0 hl hs hd
  let R : It → Hp → Prop := fun J H1 => ∃ W : Nat → Nat → L2.St → Hp → Prop, (∃ m, W 0 m σ H1) ∧ ∀ i m σ H, W i m σ H →
    (J.stop i H ∧ ts Z σ H) ∨ (J.go i H ∧ ∃ N : L2.St → Hp → Prop, (∀ σ' H', N σ' H' → ∃ m', m' < m ∧ W (i + 1) m' σ' H') ∧ ∀ x H', J.yld i H x H' → g x σ H' fun σ2 H2 => tb { nx := N, rt := Z.rt, bk := ts Z, ct := N } σ2 H2)
  show iSeq K (tVar ih) σ H R
  show ∃ v, σ[ih]? = some (some v) ∧ ∃ a, v = .ref a ∧ (((∃ xs, SqL K H a xs) ∧ R (Itl K a) H) ∨ ((∃ xs, SqT K H a xs) ∧ R (Itt K a) H))
  exact ⟨_, hv, a, rfl, .inl ⟨⟨xs, hq⟩, w⟩⟩
theorem raw_clear {K : PySem.W.Frag} {i : Nat} {Z : Ends} {σ : L2.St} {H : Hp} {a : Addr} {us : List V} (hv : σ[i]? = some (some (.ref a))) (ha : H a = some (.lst us)) (h : Z.nx σ (upd H a (.lst []))) : tClear K i Z σ H := by
  show ∃ v, σ[i]? = some (some v) ∧ (tyV K "list" v H ∧ rClear v [] H fun _ H1 => Z.nx σ H1)
  exact ⟨_, hv, .inl ⟨rfl, us, .inl (.inl ha)⟩, a, us, rfl, rfl, ha, h⟩
theorem s_mid {ih ij ir id : Nat} {th tr td : TE} {tt : TT} {tb ts : TS} (kt : PySem.W.kitOne M.K (.type "tuple") (.type "list") = some false) (d1 : ih ≠ ij) (d2 : ih ≠ ir) (d3 : ih ≠ id) (d4 : ij ≠ ir) (d5 : ij ≠ id) (d6 : ir ≠ id) (lh : ih < r.length) (lj : ij < r.length)
    (h : DeF M th [] r fun hs => De M tr [] (r.set ih (.d (.lst hs))) fun dr => dr.noL = true ∧ De M td [] ((r.set ih (.d (.lst hs))).set ir (.d dr)) fun dd => dd.noL = true ∧ DT M tt [] (((r.set ih (.d (.lst hs))).set ir (.d dr)).set id (.d dd)) fun b => b = false ∧
      DS M ts [] (((((r.set ih .un).set ir (.d dr)).set id (.d dd)).set ij .un)) E) :
    DS M (tSeq (tAsg th (gName ih)) (tSeq (tAsg tr (gName ir)) (tSeq (tAsg td (gName id)) (tSeq (tIfS tt tb tNext) (tSeq (tFor (iSeq M.K (tVar ih)) (gName ij) (tIfS (tIsL M.K ij) (tClear M.K ij) tNext)) (tSeq (tClear M.K ih) ts)))))) [] r E := fun σ H Z R z => by
  refine h σ H _ R fun Dl acc H1 hs R1 e1 hD hd1 pa fr q1 => ?_
  have repH : Rep M.K (nf M []) H1 (.lst hs) (.ref Dl) := ⟨Dl, acc, rfl, .inl ⟨new_no R hD, .inl hd1⟩, pa⟩
  have R1' : Rp M [] (r.set ih (.d (.lst hs))) (σ.set ih (some (.ref Dl))) H1 := R1.set (s := .d (.lst hs)) ⟨_, rfl, repH⟩ (fun p xs e => nomatch e)
  refine q1 (σ.set ih (some (.ref Dl))) H1 _ R1' fun vr H2 dr R2 e2 pr ⟨nr, q2⟩ => ?_
  have R2' : Rp M [] ((r.set ih (.d (.lst hs))).set ir (.d dr)) ((σ.set ih (some (.ref Dl))).set ir (some vr)) H2 := R2.set (s := .d dr) ⟨_, rfl, pr⟩ (fun p xs e => nomatch e)
  refine q2 _ H2 _ R2' fun vd H3 dd R3 e3 pd ⟨nd, q3⟩ => ?_
  have R3' : Rp M [] (((r.set ih (.d (.lst hs))).set ir (.d dr)).set id (.d dd)) (((σ.set ih (some (.ref Dl))).set ir (some vr)).set id (some vd)) H3 := R3.set (s := .d dd) ⟨_, rfl, pd⟩ (fun p xs e => nomatch e)
  refine q3 _ H3 _ R3' fun b H4 R4 e4 ⟨eb, q4⟩ => ?_
  subst eb
  show tSeq (tFor (iSeq M.K (tVar ih)) (gName ij) (tIfS (tIsL M.K ij) (tClear M.K ij) tNext)) (tSeq (tClear M.K ih) ts) Z _ H4
  have e14 : Sm M.F0 H1 H4 := (e2.trans e3).trans e4
  have eh4 : Sm M.F0 H H4 := e1.trans e14
  have keepH : ∀ z o, H z = none → H1 z = some o → H4 z = some o := fun z o hz ho => e14 z o (fun f => M.tk H z R.inv f hz) ho
  have hd4 : H4 Dl = some (.lst acc) := keepH Dl _ hD hd1
  have pr4 := pr.step (e3.trans e4)
  have pd4 := pd.step e4
  have pa4 := pa.step e14
  have lenσ : σ.length = r.length := R.len
  generalize hσ : (((σ.set ih (some (.ref Dl))).set ir (some vr)).set id (some vd)) = σ4
  have len4 : σ4.length = r.length := by rw [← hσ]; simp [lenσ]
  have getH : ∀ w : Option V, (σ4.set ij w)[ih]? = some (some (.ref Dl)) := fun w => by
    rw [List.getElem?_set_ne (fun q => d1 q.symm), ← hσ, List.getElem?_set_ne (fun q => d3 q.symm), List.getElem?_set_ne (fun q => d2 q.symm), List.getElem?_set_self (by rw [lenσ]; exact lh)]
  obtain ⟨w0, self0⟩ : ∃ w0, σ4 = σ4.set ij w0 := ⟨σ4[ij]'(by rw [len4]; exact lj), by simp⟩
  have rowTy : ∀ (i : Nat) (v : V), acc[i]? = some v → (∃ us z, v = .ref z ∧ H z = none ∧ z ≠ Dl ∧ H4 z = some (.lst us)) ∨ ∃ z us, v = .ref z ∧ SqT M.K H4 z us := fun i v hv => by
    rcases fr i v hv with ⟨ss, us, z, _, h2, h3, h4, h5⟩ | ⟨ss, h1⟩
    · exact .inl ⟨us, z, h2, h3, h4, keepH z _ h3 h5⟩
    · right
      obtain ⟨w, e5, e6⟩ := pa4.get h1
      rw [hv] at e5
      cases e5
      obtain ⟨a, us, rfl, t, _⟩ := e6
      exact ⟨a, us, rfl, by
        rcases t with ⟨_, t⟩ | t
        · exact .inl t
        · exact sqT_up t⟩
  refine raw_forL (a := Dl) (xs := acc) (by rw [self0]; exact getH w0) (.inl (.inl hd4)) (fun _ σ' H' => (∃ w, σ' = σ4.set ij w) ∧ Apart H H4 Dl H') ⟨⟨w0, self0⟩, .refl⟩ (fun i σ' H' _ p => .inl (.inl (by rw [p.2.row]; exact hd4))) ?_ ?_
  · rintro i x σ' H' hx ⟨⟨w, rfl⟩, ap⟩
    show tIfS (tIsL M.K ij) (tClear M.K ij) tNext _ ((σ4.set ij w).set ij (some x)) H'
    rw [set_set_self]
    have gx : (σ4.set ij (some x))[ij]? = some (some x) := List.getElem?_set_self (by rw [len4]; exact lj)
    rcases rowTy i x hx with ⟨us, z, rfl, hz, zD, hz4⟩ | ⟨z, us, rfl, hz4⟩
    · obtain ⟨us', hz'⟩ := ap.list z us hz4
      refine ⟨_, gx, .ref z, .ty "list", .type "list", .type "list", true, rfl, ClsV.ty "list", rd_ty (.inl (.inl hz')), kit_list, true, rfl, ?_⟩
      show tClear M.K ij _ _ H'
      exact raw_clear gx hz' ⟨⟨_, rfl⟩, ap.clear hz4 hz zD⟩
    · refine ⟨_, gx, .ref z, .ty "list", .type "tuple", .type "list", false, rfl, ClsV.ty "list", rt_ty (ap.only.sqT hz4), kt, false, rfl, ?_⟩
      exact (show (∃ w, σ4.set ij (some (V.ref z)) = σ4.set ij w) ∧ Apart H H4 Dl H' from ⟨⟨_, rfl⟩, ap⟩)
  · rintro σ' H5 ⟨⟨w, rfl⟩, ap⟩
    have hd5 : H5 Dl = some (.lst acc) := by rw [ap.row]; exact hd4
    refine raw_clear (getH w) hd5 ?_
    show ts Z (σ4.set ij w) (upd H5 Dl (.lst []))
    -- the last heap beside the one ahead of the clearing
    have only : OnlyL H4 (upd H5 Dl (.lst [])) := fun a q => by
      by_cases ez : a = Dl
      · exact ⟨acc, by rw [ez]; exact hd4⟩
      · rw [upd_ne ez] at q
        exact ap.only a q
    have old : ∀ a o, H a = some o → upd H5 Dl (.lst []) a = H4 a := fun a o e => by
      have ne : a ≠ Dl := fun q => by
        rw [q, hD] at e
        cases e
      rw [upd_ne ne]
      refine Classical.byContradiction fun q => ?_
      rw [ap.new a q] at e
      cases e
    have smN : ∀ a o, ¬ nf M [] a → H a = some o → upd H5 Dl (.lst []) a = some o := fun a o n e => by
      rw [old a o e]
      exact eh4 a o (fun f => n (nf0 a f)) e
    have R5 : Rp M [] (((((r.set ih .un).set ir (.d dr)).set id (.d dd)).set ij .un)) (σ4.set ij w) (upd H5 Dl (.lst [])) := by
      refine ⟨fun a o n e => ?_, M.st H4 _ R4.inv fun a o f e => ?_, fun p hp => (nomatch hp), List.nodup_nil, ?_, fun j t ht => ?_, fun i j p xs ys h1 h2 => ?_⟩
      · have := R.sm a o n e
        rw [old a o this]
        exact eh4 a o n this
      · cases eh : H a with
        | none => exact absurd eh (M.tk H a R.inv f)
        | some o' =>
          rw [old a o' eh]
          exact e
      · rw [List.length_set, len4]
        simp
      · by_cases j1 : j = ij
        · subst j1
          rw [List.getElem?_set_self (by simp; exact lj)] at ht
          cases ht
          trivial
        rw [List.getElem?_set_ne (fun q => j1 q.symm)] at ht
        rw [List.getElem?_set_ne (fun q => j1 q.symm), ← hσ]
        by_cases j2 : j = id
        · subst j2
          by_cases lj2 : j < r.length
          · rw [List.getElem?_set_self (by simp; exact lj2)] at ht
            cases ht
            rw [List.getElem?_set_self (by simp [lenσ]; exact lj2)]
            exact ⟨vd, rfl, rep_noL only nd pd4⟩
          · rw [List.getElem?_eq_none (by simp; omega)] at ht
            cases ht
        rw [List.getElem?_set_ne (fun q => j2 q.symm)] at ht
        rw [List.getElem?_set_ne (fun q => j2 q.symm)]
        by_cases j3 : j = ir
        · subst j3
          by_cases lj2 : j < r.length
          · rw [List.getElem?_set_self (by simp; exact lj2)] at ht
            cases ht
            rw [List.getElem?_set_self (by simp [lenσ]; exact lj2)]
            exact ⟨vr, rfl, rep_noL only nr pr4⟩
          · rw [List.getElem?_eq_none (by simp; omega)] at ht
            cases ht
        rw [List.getElem?_set_ne (fun q => j3 q.symm)] at ht
        rw [List.getElem?_set_ne (fun q => j3 q.symm)]
        by_cases j4 : j = ih
        · subst j4
          rw [List.getElem?_set_self lh] at ht
          cases ht
          trivial
        rw [List.getElem?_set_ne (fun q => j4 q.symm)] at ht
        rw [List.getElem?_set_ne (fun q => j4 q.symm)]
        have q := R.slot j t ht
        cases t with
        | un => trivial
        | d x =>
          obtain ⟨u, h1, h2⟩ := q
          exact ⟨u, h1, h2.mono smN⟩
        | mu p xs => exact nomatch q.2.1
      · have back : ∀ {m : Nat} {zs : List D}, (((((r.set ih .un).set ir (.d dr)).set id (.d dd)).set ij .un))[m]? = some (.mu p zs) → r[m]? = some (.mu p zs) := fun {m zs} h => by
          have one : ∀ {l : List Sl} {n : Nat} {s : Sl}, (∀ q ys, s ≠ .mu q ys) → (l.set n s)[m]? = some (.mu p zs) → l[m]? = some (.mu p zs) := fun {l n s} hn h => by
            rw [List.getElem?_set] at h
            split at h
            · split at h
              · exact absurd (Option.some.inj h) (hn p zs)
              · cases h
            · exact h
          exact one (s := .un) (fun q ys z => nomatch z) (one (s := .d dr) (fun q ys z => nomatch z) (one (s := .d dd) (fun q ys z => nomatch z) (one (s := .un) (fun q ys z => nomatch z) h)))
        exact R.one i j p xs ys (back h1) (back h2)
    refine q4 _ _ Z R5 (z.later R5.inv ⟨fun a o n e => ?_, fun p hp => (nomatch hp), fun a ha => ?_⟩)
    · rw [old a o e]
      exact eh4 a o (fun f => n (.inl f)) e
    · cases eh : H a with
      | none => exact absurd eh ha
      | some o =>
        rw [old a o eh]
        by_cases f : M.F0 a
        · exact M.tk H4 a R4.inv f
        · rw [eh4 a o f eh]
          exact fun z => nomatch z
end
end Dw

/-! Wp16: len(set(texts)); items that are new lists or tuples. -/
namespace Dw
open PySem PySem.Spec PyProof.Rows L2
/-- len(found), a set of texts -/
def rLenSetX (P : Program) (w : World) : List V → Hp → VK → Prop := fun vs H Q => ∃ (a : Addr) (S : Str → Bool) (n : Nat), vs = [V.ref a] ∧ H a = some (SetX P w a S n) ∧ Q (.int (n : Int)) H
theorem cr_lenSetX {X : Cx} : CallR X (.builtin "len") (rLenSetX X.prog X.w) := by
  intro pins s σ H vs us Q I r h
  obtain ⟨a, S, n, rfl, ha, q⟩ := h
  obtain ⟨o, es, ep, t, ho, hex, hd, D⟩ := setX_get I ha
  rw [Vals.ref1 r]
  have hf := fits_of_scanBound D.small
  have hs : sizeLine = 16777216 := sizeLine_eq
  refine call_len_set ho hex hd D.fits (by omega) ?_
  have e : ((es.size : Nat) : Int) = (n : Int) := by rw [D.size]
  rw [e]
  exact ⟨.int n, H, (I.tok _), ⟨_, rfl⟩, q⟩
def W.lenSetS (x : D) (k : D → Prop) : Prop := ∃ ns : List Str, (x = .lst (ns.map D.str) ∨ x = .tup (ns.map D.str)) ∧ ns.length + 1 < scanBound ∧ ∀ l : List Str, l.Nodup → (∀ k, k ∈ l ↔ k ∈ ns) → k (.int (l.length : Int))
section
variable {M : Md} {O : List Addr} {r : List Sl} {k : D → Prop} {te tl tr : TE} {tt : TT} {P : Program} {w : World}
theorem e_lenSetS (h : De M te O r fun x => W.lenSetS x k) : De M (tCB (rLenSetX P w) (tCons (tCB (rSetS M.K P w) (tCons te tNil)) tNil)) O r k := fun σ H Q R z => h σ H _ R fun v H1 x R1 e1 p1 q => by
  obtain ⟨ns, c, room, q⟩ := q
  have seq : ∃ p, v = .ref p ∧ (SqL M.K H1 p (ns.map V.str) ∨ SqT M.K H1 p (ns.map V.str)) := by
    rcases c with rfl | rfl
    · obtain ⟨a, vs, rfl, h1, h2⟩ := p1
      rw [repL_strs_of h2] at h1
      exact ⟨a, rfl, .inl h1.sq⟩
    · obtain ⟨a, vs, rfl, h1, h2⟩ := p1
      rw [repL_strs_of h2] at h1
      exact ⟨a, rfl, .inr h1.sq⟩
  obtain ⟨p, rfl, sq⟩ := seq
  refine ⟨p, ns, rfl, sq, room, fun q' l l1 l2 hq => ?_⟩
  refine ⟨q', _, _, rfl, upd_same, ?_⟩
  have R2 := R1.grow (sm_new (o := SetX P w q' (fun j => decide (j ∈ ns)) l.length) hq)
  exact z (.int (l.length : Int)) _ (.int (l.length : Int)) R2 (e1.trans (sm_0 (sm_new hq))) rfl (q l l1 l2)
theorem DeF.imp {k k' : List D → Prop} (h : DeF M te O r k) (i : ∀ hs, k hs → k' hs) : DeF M te O r k' := fun σ H Q R z => h σ H Q R fun Dl acc H' hs a b c d e f g => z Dl acc H' hs a b c d e f (i hs g)
/-! items -/
theorem deE_of (h : De M te O r fun d => (∃ ss, d = .tup ss) ∧ k d) : DeE M te O r k := fun σ H Q R z => h σ H Q R fun v H1 d R1 e1 p1 ⟨t, q⟩ => z v H1 d R1 e1 p1 (.inr t) q
theorem tup_yes {x : D} (h : W.tupleOf [x] k) : W.tupleOf [x] fun d => (∃ ss, d = .tup ss) ∧ k d := by
  cases x <;> first
    | exact (show False from h).elim
    | exact ⟨⟨_, rfl⟩, h⟩
theorem deE_list (h : De M te O r fun x => W.listOf [x] k) : DeE M (tCB (fun xs H Q => ∃ p ys, xs = [.ref p] ∧ (SqL M.K H p ys ∨ SqT M.K H p ys) ∧ ∀ l, H l = none → Q (.ref l) (upd H l (.lst ys))) (tCons te tNil)) O r k := fun σ H Q R z => h σ H _ R fun v H1 x R1 e1 p1 q => by
  have older : ∀ l, H1 l = none → H l = none := fun l hl => by
    cases eh : H l with
    | none => rfl
    | some o =>
      by_cases f : M.F0 l
      · exact absurd hl (M.tk H1 l R1.inv f)
      · rw [e1 l o f eh] at hl
        cases hl
  have go : ∀ (xs : List D) (p : Addr) (ys : List V), (SqL M.K H1 p ys ∨ SqT M.K H1 p ys) → RepL M.K (nf M O) H1 xs ys → v = .ref p → k (.lst xs) → ∃ p ys, [v] = [V.ref p] ∧ (SqL M.K H1 p ys ∨ SqT M.K H1 p ys) ∧ ∀ l, H1 l = none → Q (.ref l) (upd H1 l (.lst ys)) := fun xs p ys hs hr ev hk =>
    ⟨p, ys, by rw [ev], hs, fun l hl => z (.ref l) _ (.lst xs) (R1.grow (sm_new hl)) (e1.trans (sm_0 (sm_new hl))) (rep_lst R1 hl hr) (.inl ⟨xs, ys, l, rfl, rfl, older l hl, upd_same⟩) hk⟩
  cases x with
  | lst xs =>
    obtain ⟨a, ys, ev, h1, h2⟩ := p1
    exact go xs a ys (.inl h1.sq) h2 ev q
  | tup xs =>
    obtain ⟨a, ys, ev, h1, h2⟩ := p1
    exact go xs a ys (.inr h1.sq) h2 ev q
  | _ => exact (show False from q).elim
theorem deE_if (h : DT M tt O r fun b => if b = true then DeE M tl O r k else DeE M tr O r k) : DeE M (tIf tt tl tr) O r k := fun σ H Q R z => h σ H _ R fun b H1 R1 e1 q => by
  have older : ∀ l, H1 l = none → H l = none := fun l hl => by
    cases eh : H l with
    | none => rfl
    | some o =>
      by_cases f : M.F0 l
      · exact absurd hl (M.tk H1 l R1.inv f)
      · rw [e1 l o f eh] at hl
        cases hl
  have zz : ∀ v H' d, Rp M O r σ H' → Sm M.F0 H1 H' → Rep M.K (nf M O) H' d v → ((∃ ss us z, d = .lst ss ∧ v = .ref z ∧ H1 z = none ∧ H' z = some (.lst us)) ∨ ∃ ss, d = .tup ss) → k d → Q v H' := fun v H' d R' e' p' kd q' =>
    z v H' d R' (e1.trans e') p' (kd.imp (fun ⟨ss, us, x, a1, a2, a3, a4⟩ => ⟨ss, us, x, a1, a2, older x a3, a4⟩) id) q'
  cases b with
  | true =>
    rw [if_pos rfl] at q
    exact q σ H1 Q R1 zz
  | false =>
    rw [if_neg Bool.false_ne_true] at q
    exact q σ H1 Q R1 zz
end
end Dw

/-! H02: where the defs of this row stand. -/
namespace Dw
open PySem PySem.Spec PyProof.Rows L2
def topW (i : Nat) : Stmt := PySem.Challenge.pw_nestprops_k02_rules_of_sets.main.body.getD i (.Pass ⟨0, 0, 0, 0⟩)
abbrev sMix : Stmt := topW 40
abbrev sAny : Stmt := topW 42
abbrev sWor : Stmt := topW 43
abbrev sDeal : Stmt := topW 38
abbrev sDraw : Stmt := topW 39
end Dw

/-! K02a: the names of some sets. -/
namespace Dw
open PySem PySem.Spec PyProof.Rows L2
abbrev sNam : Stmt := topW 2
abbrev nNam : List Str := ["sets", "one", "name"]
theorem scNam : FnScope nNam ["sets"] (defScope sNam) := ⟨rfl, rfl, rfl, by decide +kernel, rfl, by decide +kernel, by decide +kernel⟩
/-- x is a list or a tuple of rows of texts, zs -/
def SetsD (x : D) (zs : List (List Str)) : Prop := ∃ xs : List D, (x = .lst xs ∨ x = .tup xs) ∧ zs.length = xs.length ∧ ∀ (i : Nat) (y : D) (z : List Str), xs[i]? = some y → zs[i]? = some z → y = .lst (z.map D.str) ∨ y = .tup (z.map D.str)
/-- fewer than 64 different texts -/
def Few (zs : List (List Str)) : Prop := ∃ B : List Str, B.length < 64 ∧ ∀ z ∈ zs, ∀ y ∈ z, y ∈ B
def preNam (ds : List D) : Prop := ∃ (x : D) (zs : List (List Str)), ds = [x] ∧ SetsD x zs ∧ Few zs
def postNam (ds : List D) (d : D) : Prop := ∃ (x : D) (zs : List (List Str)) (ys : List Str), ds = [x] ∧ SetsD x zs ∧ d = .lst (ys.map D.str) ∧ ys.Nodup ∧ sortedS ys = true ∧ ∀ k, k ∈ ys ↔ ∃ z ∈ zs, k ∈ z
section
variable {P : Program} {w : World} {K : PySem.W.Frag} {mg : Str → Option Value} {base : Heap}
theorem ok_nam {f : Addr} {fd : FuncData} {k : Nat} (F : Fun K "names_in" "names_in" sNam f fd) (mS : mg "sorted" = none) : FnOk P w K mg base CX0 (k + 1) f fd ["sets"] (SpP K preNam postNam) := by
  refine fn_dw (S := pure0) F scNam (fun g ds ⟨x, zs, e, _⟩ => by rw [e]; rfl) fun cdv A outer s H E g ds F1 f0 tr hr pre => ?_
  obtain ⟨x, zs, rfl, ⟨xs, hx, hl, hz⟩, B, hB, hs⟩ := pre
  refine ⟨_, pss_one (ps_ret (pe_callB (cr_sortedX (by rfl)) (by rfl) mS (by decide +kernel) (pa_cons (pe_sx2 (own := [("one", 1), ("name", 2)]) (vs1 := [2]) (i1 := iSeq K (tVar 1)) (by rfl) scNam.nd (pi_seq (pv 0)) (blkOk_by (N := nNam) (sc := defScope sNam) (by decide +kernel)) (by decide)
    (fun _ _ _ _ _ => pg_name (i := 1) scNam.nd rfl (Or.inl rfl)) (fun _ _ _ _ _ => pts_nil) (fun _ _ _ _ _ => pi_seq (pv 1)) (fun _ _ _ _ _ => pg_name (i := 2) scNam.nd rfl (Or.inl rfl)) (fun _ _ _ _ _ => pts_nil) (fun _ _ _ _ _ => pv 2)) pa_nil))), ?_⟩
  refine ds_ret (de_sortedSx2 (js := [1]) (js1 := [2]) B hB (by decide) (by decide) (di_seq (de_var rfl ⟨xs, hx, zs, hl, hs, fun O' i y z hy hzi => ?_, fun ys y1 y2 y3 => ⟨x, zs, ys, rfl, ⟨xs, hx, hl, hz⟩, rfl, y1, y2, y3⟩⟩)))
  refine dg_name (dt_yes ⟨rfl, di_seq (de_var rfl ⟨z.map D.str, hz i y z hy hzi, by rw [List.length_map], fun O2 j u c hu hc => dg_name (dt_yes ⟨rfl, de_var rfl ?_⟩)⟩)⟩)
  rw [List.getElem?_map, hc] at hu
  exact (Option.some.inj hu).symm
end
end Dw

/-! Least: the least ones of a row, kept one by one; masks. Plain Lean, nothing of the layer. -/
namespace Dw
section
variable {α : Type}
/-- one by one: what none of the kept ones is within -/
def keep (sub : α → α → Bool) : List α → List α → List α
  | acc, [] => acc
  | acc, x :: xs => if acc.any (fun k => sub k x) = true then keep sub acc xs else keep sub (acc ++ [x]) xs
/-- the least ones of all -/
def Lst (sub : α → α → Bool) (all : List α) (m : α) : Prop := m ∈ all ∧ ∀ k ∈ all, sub k m = true → k = m
theorem keep_ok {sub : α → α → Bool} (rfl' : ∀ x, sub x x = true) (trans : ∀ x y z, sub x y = true → sub y z = true → sub x z = true) : ∀ (xs ds acc : List α), (ds ++ xs).Pairwise (fun x y => sub y x = false) →
    (∀ d ∈ ds, ∃ k ∈ acc, sub k d = true) → acc.Sublist ds → (∀ m ∈ acc, Lst sub (ds ++ xs) m) → (∀ m ∈ ds, Lst sub (ds ++ xs) m → m ∈ acc) →
    (keep sub acc xs).Sublist (ds ++ xs) ∧ ∀ m, m ∈ keep sub acc xs ↔ Lst sub (ds ++ xs) m
  | [], ds, acc, hp, hc, hs, h1, h2 => by
    rw [List.append_nil] at hp h1 h2 ⊢
    exact ⟨hs, fun m => ⟨h1 m, fun z => h2 m z.1 z⟩⟩
  | x :: xs, ds, acc, hp, hc, hs, h1, h2 => by
    have e : ds ++ x :: xs = (ds ++ [x]) ++ xs := by simp
    have before : ∀ d ∈ ds, sub x d = false := fun d hd => (List.pairwise_append.mp hp).2.2 d hd x (by simp)
    have after : ∀ y ∈ xs, sub y x = false := fun y hy => (List.pairwise_cons.mp (List.pairwise_append.mp hp).2.1).1 y hy
    unfold keep
    by_cases q : acc.any (fun k => sub k x) = true
    · rw [if_pos q]
      obtain ⟨k, hk, hkx⟩ := List.any_eq_true.mp q
      have kd : k ∈ ds := hs.subset hk
      rw [e] at hp h1 h2 ⊢
      refine keep_ok rfl' trans xs (ds ++ [x]) acc hp (fun d hd => ?_) (hs.trans (List.sublist_append_left _ _)) h1 (fun m hm z => ?_)
      · rcases List.mem_append.mp hd with hd | hd
        · exact hc d hd
        · rw [List.mem_singleton.mp hd]
          exact ⟨k, hk, hkx⟩
      · rcases List.mem_append.mp hm with hm | hm
        · exact h2 m hm z
        · have ex := List.mem_singleton.mp hm
          subst ex
          have := z.2 k (by simp [kd]) hkx
          subst this
          rw [before k kd] at hkx
          cases hkx
    · rw [if_neg q]
      have no : ∀ k ∈ acc, sub k x = false := fun k hk => by
        cases c : sub k x with
        | false => rfl
        | true => exact absurd (List.any_eq_true.mpr ⟨k, hk, c⟩) q
      have lx : Lst sub (ds ++ x :: xs) x := ⟨by simp, fun k hk hkx => by
        rcases List.mem_append.mp hk with hk | hk
        · obtain ⟨k', h3, h4⟩ := hc k hk
          have := trans _ _ _ h4 hkx
          rw [no k' h3] at this
          cases this
        · rcases List.mem_cons.mp hk with rfl | hk
          · rfl
          · rw [after k hk] at hkx
            cases hkx⟩
      rw [e] at hp h1 h2 lx ⊢
      refine keep_ok rfl' trans xs (ds ++ [x]) (acc ++ [x]) hp (fun d hd => ?_) (List.Sublist.append hs (List.Sublist.refl _)) (fun m hm => ?_) (fun m hm z => ?_)
      · rcases List.mem_append.mp hd with hd | hd
        · obtain ⟨k, h3, h4⟩ := hc d hd
          exact ⟨k, by simp [h3], h4⟩
        · rw [List.mem_singleton.mp hd]
          exact ⟨x, by simp, rfl' x⟩
      · rcases List.mem_append.mp hm with hm | hm
        · exact h1 m hm
        · rw [List.mem_singleton.mp hm]
          exact lx
      · rcases List.mem_append.mp hm with hm | hm
        · exact List.mem_append_left _ (h2 m hm z)
        · exact List.mem_append_right _ hm
/-- what is kept of a row in which no later one is within an earlier one -/
theorem keep_spec {sub : α → α → Bool} (rfl' : ∀ x, sub x x = true) (trans : ∀ x y z, sub x y = true → sub y z = true → sub x z = true) {xs : List α} (hp : xs.Pairwise (fun x y => sub y x = false)) :
    (keep sub [] xs).Sublist xs ∧ ∀ m, m ∈ keep sub [] xs ↔ Lst sub xs m :=
  keep_ok rfl' trans xs [] [] hp (fun d h => nomatch h) (List.Sublist.refl _) (fun m h => nomatch h) (fun m h => nomatch h)
/-- two rows that rise by one order and hold the same are one -/
theorem rise_eq {r : α → α → Prop} (asym : ∀ x y, r x y → r y x → False) : ∀ {xs ys : List α}, xs.Pairwise r → ys.Pairwise r → (∀ m, m ∈ xs ↔ m ∈ ys) → xs = ys
  | [], [], _, _, _ => rfl
  | [], y :: ys, _, _, h => nomatch (h y).mpr (by simp)
  | x :: xs, [], _, _, h => nomatch (h x).mp (by simp)
  | x :: xs, y :: ys, hx, hy, h => by
    obtain ⟨x1, x2⟩ := List.pairwise_cons.mp hx
    obtain ⟨y1, y2⟩ := List.pairwise_cons.mp hy
    have irr : ∀ z, ¬ r z z := fun z q => asym z z q q
    have e : x = y := by
      rcases List.mem_cons.mp ((h x).mp (by simp)) with q | q
      · exact q
      · rcases List.mem_cons.mp ((h y).mpr (by simp)) with p | p
        · exact p.symm
        · exact (asym _ _ (x1 y p) (y1 x q)).elim
    subst e
    refine congrArg (x :: ·) (rise_eq asym x2 y2 fun m => ⟨fun hm => ?_, fun hm => ?_⟩)
    · rcases List.mem_cons.mp ((h m).mp (List.mem_cons_of_mem _ hm)) with q | q
      · subst q
        exact (irr _ (x1 m hm)).elim
      · exact q
    · rcases List.mem_cons.mp ((h m).mpr (List.mem_cons_of_mem _ hm)) with q | q
      · subst q
        exact (irr _ (y1 m hm)).elim
      · exact q
end
/-! ### masks -/
section
variable {α : Type} [DecidableEq α]
/-- bit i: is the i-th name in the row -/
def maskN : List α → List α → Nat
  | [], _ => 0
  | n :: ns, one => (if n ∈ one then 1 else 0) + 2 * maskN ns one
theorem maskN_bit : ∀ (ns one : List α) (i : Nat), (maskN ns one).testBit i = match ns[i]? with
    | some n => decide (n ∈ one)
    | none => false
  | [], one, i => by
    show (0 : Nat).testBit i = _
    rw [Nat.zero_testBit]
    rfl
  | n :: ns, one, 0 => by
    show ((if n ∈ one then 1 else 0) + 2 * maskN ns one).testBit 0 = decide (n ∈ one)
    rw [Nat.testBit_zero]
    by_cases h : n ∈ one
    · rw [if_pos h, decide_eq_true h, decide_eq_true]
      omega
    · rw [if_neg h, decide_eq_false h, decide_eq_false]
      omega
  | n :: ns, one, i + 1 => by
    show ((if n ∈ one then 1 else 0) + 2 * maskN ns one).testBit (i + 1) = _
    rw [Nat.testBit_succ, show ((if n ∈ one then 1 else 0) + 2 * maskN ns one) / 2 = maskN ns one from by split <;> omega, maskN_bit ns one i]
    rfl
/-- a mask within another -/
def within (k m : Nat) : Bool := decide (m &&& k = k)
theorem within_bits {k m : Nat} : within k m = true ↔ ∀ i, k.testBit i = true → m.testBit i = true := by
  unfold within
  rw [decide_eq_true_eq]
  constructor
  · intro h i hi
    have := congrArg (fun x => Nat.testBit x i) h
    simp only [Nat.testBit_and, hi, Bool.and_true] at this
    exact this
  · intro h
    refine Nat.eq_of_testBit_eq fun i => ?_
    rw [Nat.testBit_and]
    cases hk : k.testBit i with
    | false => rw [Bool.and_false]
    | true => rw [h i hk, Bool.and_true]
theorem within_refl (m : Nat) : within m m = true := within_bits.mpr fun _ h => h
theorem within_trans (x y z : Nat) (h : within x y = true) (g : within y z = true) : within x z = true := within_bits.mpr fun i hi => within_bits.mp g i (within_bits.mp h i hi)
theorem within_le {k m : Nat} (h : within k m = true) : k ≤ m := by
  unfold within at h
  rw [decide_eq_true_eq] at h
  rw [← h]
  exact Nat.and_le_left
/-- masks that rise: no later one is within an earlier one -/
theorem rise_within {ms : List Nat} (h : ms.Pairwise (· < ·)) : ms.Pairwise fun x y => within y x = false := h.imp fun {x y} hxy => by
  cases q : within y x with
  | false => rfl
  | true => exact absurd (within_le q) (by omega)
theorem within_mask {ns a b : List α} : within (maskN ns b) (maskN ns a) = true ↔ ∀ n ∈ ns, n ∈ b → n ∈ a := by
  rw [within_bits]
  constructor
  · intro h n hn hb
    obtain ⟨i, hi⟩ := List.getElem?_of_mem hn
    have := h i (by rw [maskN_bit, hi]; exact decide_eq_true hb)
    rw [maskN_bit, hi] at this
    exact of_decide_eq_true this
  · intro h i hi
    rw [maskN_bit] at hi ⊢
    cases e : ns[i]? with
    | none =>
      rw [e] at hi
      cases hi
    | some n =>
      rw [e] at hi
      exact decide_eq_true (h n (List.mem_of_getElem? e) (of_decide_eq_true hi))
/-- the names of a mask -/
def namesN : List α → Nat → List α
  | [], _ => []
  | n :: ns, m => if m.testBit 0 = true then n :: namesN ns (m / 2) else namesN ns (m / 2)
theorem namesN_mask : ∀ (ns one : List α), namesN ns (maskN ns one) = ns.filter fun n => decide (n ∈ one)
  | [], _ => rfl
  | n :: ns, one => by
    have e1 := maskN_bit (n :: ns) one 0
    have e2 : maskN (n :: ns) one / 2 = maskN ns one := by
      show ((if n ∈ one then 1 else 0) + 2 * maskN ns one) / 2 = _
      split <;> omega
    unfold namesN
    rw [e1, e2, namesN_mask ns one, List.filter_cons]
    rfl
end
end Dw

/-! K02b: a row of texts as a number. -/
namespace Dw
open PySem PySem.Spec PyProof.Rows L2
abbrev sMsk : Stmt := topW 3
abbrev nMsk : List Str := ["one", "names", "at", "name"]
theorem scMsk : FnScope nMsk ["one", "names"] (defScope sMsk) := ⟨rfl, rfl, rfl, by decide +kernel, rfl, by decide +kernel, by decide +kernel⟩
def preMsk (ds : List D) : Prop := ∃ (x : D) (one names : List Str), ds = [x, .lst (names.map D.str)] ∧ (x = .lst (one.map D.str) ∨ x = .tup (one.map D.str)) ∧ names.length ≤ 64
def postMsk (ds : List D) (d : D) : Prop := ∃ (x : D) (one names : List Str), ds = [x, .lst (names.map D.str)] ∧ (x = .lst (one.map D.str) ∨ x = .tup (one.map D.str)) ∧ d = .int (maskN names one : Int)
def pickE (one : List Str) : D → Bool
  | .tup [_, .str s] => decide (s ∈ one)
  | _ => false
def powE : D → D
  | .tup [.int i, _] => .int (1 * 2 ^ i.toNat)
  | _ => .non
theorem mask_sum (one : List Str) : ∀ (names : List Str) (n : Nat), ∃ bs : List Int, (((List.range' n names.length).zipWith (fun (i : Nat) x => D.tup [.int (i : Int), x]) (names.map D.str)).filter (pickE one)).map powE = bs.map D.int ∧ bs.sum = 2 ^ n * (maskN names one : Int)
  | [], n => ⟨[], rfl, by show (0 : Int) = 2 ^ n * ((0 : Nat) : Int); simp⟩
  | c :: names, n => by
    obtain ⟨bs, e, h⟩ := mask_sum one names (n + 1)
    have hm : (maskN (c :: names) one : Int) = (if c ∈ one then 1 else 0) + 2 * (maskN names one : Int) := by
      show (((if c ∈ one then 1 else 0) + 2 * maskN names one : Nat) : Int) = _
      split <;> simp
    have hp : (2 : Int) ^ (n + 1) = 2 ^ n * 2 := Int.pow_succ 2 n
    rw [List.length_cons, List.range'_succ, List.map_cons, List.zipWith_cons_cons, hm]
    by_cases hc : c ∈ one
    · refine ⟨2 ^ n :: bs, ?_, ?_⟩
      · rw [List.filter_cons_of_pos (by show decide (c ∈ one) = true; exact decide_eq_true hc), List.map_cons, List.map_cons, e]
        show D.int (1 * 2 ^ ((n : Nat) : Int).toNat) :: _ = _
        rw [Int.toNat_natCast, Int.one_mul]
      · rw [List.sum_cons, h, if_pos hc, hp, Int.mul_add, Int.mul_one, Int.mul_assoc]
    · refine ⟨bs, ?_, ?_⟩
      · rw [List.filter_cons_of_neg (by show ¬ decide (c ∈ one) = true; rw [decide_eq_true_eq]; exact hc), e]
      · rw [h, if_neg hc, hp, Int.zero_add, Int.mul_assoc]
section
variable {P : Program} {w : World} {K : PySem.W.Frag} {mg : Str → Option Value} {base : Heap}
theorem ok_msk {f : Addr} {fd : FuncData} {k : Nat} (F : Fun K "mask_of" "mask_of" sMsk f fd) (mS : mg "sum" = none) (mE : mg "enumerate" = none) : FnOk P w K mg base CX0 (k + 1) f fd ["one", "names"] (SpP K preMsk postMsk) := by
  refine fn_dw (S := pure0) F scMsk (fun g ds ⟨x, a, b, e, _⟩ => by rw [e]; rfl) fun cdv A outer s H E g ds F1 f0 tr hr pre => ?_
  obtain ⟨x, one, names, rfl, hx, hn⟩ := pre
  refine ⟨_, pss_one (ps_ret (pe_callB (cr_sum (by rfl)) (by rfl) mS (by decide +kernel) (pa_cons (pe_lc (own := [("at", 2), ("name", 3)]) (g := gTup K 2 (gCons (gName 2) (gCons (gName 3) gNil))) (tt := tTest (tOp (rIn K false) (tVar 3) (tVar 0))) (by rfl) scMsk.nd (pi_enum (by rfl) mE (pa_cons (pv 1) pa_nil)) (blkOk_by (N := nMsk) (sc := defScope sMsk) (by decide +kernel))
    (fun _ _ _ _ _ => pg_tup (by rfl) (pgs_cons (pg_name (i := 2) scMsk.nd rfl (Or.inl rfl)) (pgs_cons (pg_name (i := 3) scMsk.nd rfl (Or.inl rfl)) pgs_nil))) (fun _ _ _ _ _ => pts_one (pt_cmpR op_in_seq (pv 3) (pv 0) (by rfl))) (fun _ _ _ _ _ => pe_op op_shl pe_int (pv 2))) pa_nil))), ?_⟩
  refine ds_ret (de_sum (de_lcF (pickE one) powE (js := [2, 3]) (by decide) (di_enum (da_cons (de_var rfl (da_nil ⟨_, rfl, ?_⟩))))))
  refine ⟨by rw [enumD_len, List.length_map]; exact Nat.lt_of_lt_of_le (by omega : names.length < 1000) (by decide), fun O' i d hd => ?_, ?_⟩
  · obtain ⟨y, hy, rfl⟩ := enumD_get hd
    rw [List.getElem?_map] at hy
    obtain ⟨c, hc, rfl⟩ := Option.map_eq_some_iff.mp hy
    have hi : i < names.length := by
      rw [List.getElem?_eq_some_iff] at hc
      exact hc.1
    refine dg_tup rfl (dgs_cons (dg_name (dgs_cons (dg_name (dgs_nil ?_)))))
    refine dt_test (de_inS (de_var rfl (de_var rfl ⟨c, one, rfl, hx, _, rfl, rfl, fun _ => ?_⟩)))
    refine de_intC (C := CPow) (g := fun i j => i * 2 ^ j.toNat) (de_int (de_var rfl ⟨1, (i : Int), rfl, rfl, ⟨by omega, by omega, by decide⟩, rfl⟩))
  · obtain ⟨bs, e, h⟩ := mask_sum one names 0
    refine ⟨bs, ?_, x, one, names, rfl, hx, ?_⟩
    · rw [← e]
      unfold enumD
      rw [List.range_eq_range', List.length_map]
    · rw [h, Int.pow_zero, Int.one_mul]
end
end Dw

/-! K02c: a number as a row of texts. -/
namespace Dw
open PySem PySem.Spec PyProof.Rows L2
abbrev sNof : Stmt := topW 4
abbrev nNof : List Str := ["mask", "names", "at", "name"]
theorem scNof : FnScope nNof ["mask", "names"] (defScope sNof) := ⟨rfl, rfl, rfl, by decide +kernel, rfl, by decide +kernel, by decide +kernel⟩
def preNof (ds : List D) : Prop := ∃ (m : Nat) (names : List Str), ds = [.int (m : Int), .lst (names.map D.str)] ∧ names.length ≤ 64
def postNof (ds : List D) (d : D) : Prop := ∃ (m : Nat) (names : List Str), ds = [.int (m : Int), .lst (names.map D.str)] ∧ d = .tup ((namesN names m).map D.str)
/-- a whole number's last bit -/
def rOdd : R2 := fun x y H Q => ∃ n : Nat, x = .int (n : Int) ∧ y = .int 1 ∧ Q (.int ((n % 2 : Nat) : Int)) H
theorem de_odd {M : Md} {O : List Addr} {r : List Sl} {k : D → Prop} {ta tb : TE} (h : De M ta O r fun x => De M tb O r fun y => ∃ n : Nat, x = .int (n : Int) ∧ y = .int 1 ∧ k (.int ((n % 2 : Nat) : Int))) : De M (tOp rOdd ta tb) O r k := de_op2 h fun x y c σ H v u Q R pv pu z => by
  obtain ⟨n, rfl, rfl, q⟩ := c
  exact ⟨n, pv, pu, z _ H (.int _) R .refl rfl q⟩
def bitE (m : Nat) : D → Bool
  | .tup [.int i, _] => m.testBit i.toNat
  | _ => false
def nameE : D → D
  | .tup [_, .str s] => .str s
  | _ => .non
theorem names_bits (m0 : Nat) : ∀ (names : List Str) (n : Nat), (((List.range' n names.length).zipWith (fun (i : Nat) x => D.tup [.int (i : Int), x]) (names.map D.str)).filter (bitE m0)).map nameE = (namesN names (m0 / 2 ^ n)).map D.str
  | [], n => rfl
  | c :: names, n => by
    have ih := names_bits m0 names (n + 1)
    have e : m0 / 2 ^ (n + 1) = m0 / 2 ^ n / 2 := by rw [Nat.pow_succ, Nat.div_div_eq_div_mul]
    rw [e] at ih
    have t : m0.testBit n = (m0 / 2 ^ n).testBit 0 := by
      rw [Nat.testBit_zero, Nat.testBit_eq_decide_div_mod_eq]
    rw [List.length_cons, List.range'_succ, List.map_cons, List.zipWith_cons_cons]
    unfold namesN
    by_cases h : (m0 / 2 ^ n).testBit 0 = true
    · rw [if_pos h, List.filter_cons_of_pos (by show m0.testBit ((n : Nat) : Int).toNat = true; rw [Int.toNat_natCast, t]; exact h), List.map_cons, List.map_cons, ih]
      rfl
    · rw [if_neg h, List.filter_cons_of_neg (by show ¬ m0.testBit ((n : Nat) : Int).toNat = true; rw [Int.toNat_natCast, t]; exact h), ih]
section
variable {P : Program} {w : World} {K : PySem.W.Frag} {mg : Str → Option Value} {base : Heap}
theorem ok_nof {f : Addr} {fd : FuncData} {k : Nat} (F : Fun K "names_of" "names_of" sNof f fd) (mT : mg "tuple" = none) (mE : mg "enumerate" = none) : FnOk P w K mg base CX0 (k + 1) f fd ["mask", "names"] (SpP K preNof postNof) := by
  refine fn_dw (S := pure0) F scNof (fun g ds ⟨a, b, e, _⟩ => by rw [e]; rfl) fun cdv A outer s H E g ds F1 f0 tr hr pre => ?_
  obtain ⟨m, names, rfl, hn⟩ := pre
  refine ⟨_, pss_one (ps_ret (pe_callTy call_tuple_of (by rfl) mT (by decide +kernel) (pa_cons (pe_lc (own := [("at", 2), ("name", 3)]) (g := gTup K 2 (gCons (gName 2) (gCons (gName 3) gNil)))
    (tt := tTest (tOp rEq (tOp rOdd (tOp (rI (fun _ j => 0 ≤ j) fun i j => .int (i / 2 ^ j.toNat)) (tVar 0) (tVar 2)) (tC (.int 1))) (tC (.int 1)))) (by rfl) scNof.nd (pi_enum (by rfl) mE (pa_cons (pv 1) pa_nil)) (blkOk_by (N := nNof) (sc := defScope sNof) (by decide +kernel))
    (fun _ _ _ _ _ => pg_tup (by rfl) (pgs_cons (pg_name (i := 2) scNof.nd rfl (Or.inl rfl)) (pgs_cons (pg_name (i := 3) scNof.nd rfl (Or.inl rfl)) pgs_nil))) (fun _ _ _ _ _ => pts_one (pt_cmpR op_eq (pe_op op_odd (pe_op op_shr (pv 0) (pv 2)) pe_int) pe_int (by rfl))) (fun _ _ _ _ _ => pv 3)) pa_nil))), ?_⟩
  refine ds_ret (de_tupleOf (de_lcF (bitE m) nameE (js := [2, 3]) (by decide) (di_enum (da_cons (de_var rfl (da_nil ⟨_, rfl, ?_⟩))))))
  refine ⟨by rw [enumD_len, List.length_map]; exact Nat.lt_of_lt_of_le (by omega : names.length < 1000) (by decide), fun O' i d hd => ?_, ?_⟩
  · obtain ⟨y, hy, rfl⟩ := enumD_get hd
    rw [List.getElem?_map] at hy
    obtain ⟨c, hc, rfl⟩ := Option.map_eq_some_iff.mp hy
    refine dg_tup rfl (dgs_cons (dg_name (dgs_cons (dg_name (dgs_nil ?_)))))
    refine dt_test (de_eq (de_odd (de_intC (C := fun _ j => 0 ≤ j) (g := fun i j => i / 2 ^ j.toNat) (de_var rfl (de_var rfl ⟨_, _, rfl, rfl, by omega, de_int ⟨m / 2 ^ i, ?_, rfl, de_int ⟨_, _, rfl, rfl, rfl, _, rfl, ?_, fun _ => de_var rfl rfl⟩⟩⟩)))))
    · rw [Int.toNat_natCast]
      refine congrArg D.int ?_
      push_cast
      rfl
    · show decide _ = m.testBit ((i : Nat) : Int).toNat
      rw [Int.toNat_natCast, Nat.testBit_eq_decide_div_mod_eq]
      refine decide_eq_decide.mpr ⟨fun z => ?_, fun z => by rw [z]; rfl⟩
      have z := V.int.inj z
      omega
  · refine ⟨_, .inl rfl, m, names, rfl, ?_⟩
    have e := names_bits m names 0
    rw [Nat.pow_zero, Nat.div_one] at e
    rw [← e]
    unfold enumD
    rw [List.range_eq_range', List.length_map]
end
end Dw

/-! DwSetB: sorted(set of numbers), any number of them. -/
namespace Dw
open PySem PySem.Spec PySem.Calls PyProof.Rows L2
open PySem.W (EachIs AllAlike Sortable dataLe dataLt alike)
section
variable {P : Program} {w : World} {A : Around} {E : Value → Shared → Prop} {s : Shared} {a : Addr}
def IsI (v : Value) (k : Int) : Prop := ∃ tk, v = .int k tk
theorem each_ints : ∀ {vs : List Value} {ns : List Int}, IntsAre vs ns → EachIs IsI vs ns
  | _, _, .nil => .nil
  | _, _, .cons k t h => .cons ⟨t, rfl⟩ (each_ints h)
theorem ints_each : ∀ {vs : List Value} {ns : List Int}, EachIs IsI vs ns → IntsAre vs ns
  | _, _, .nil => .nil
  | _, _, .cons h t => by
    obtain ⟨tk, rfl⟩ := h
    exact .cons _ tk (ints_each t)
theorem ints_alike' (ns : List Int) : AllAlike (ns.map PyData.int) := fun d hd d' hd' => by
  obtain ⟨b, _, rfl⟩ := List.mem_map.mp hd
  obtain ⟨c, _, rfl⟩ := List.mem_map.mp hd'
  rfl
theorem ints_sortable' (ns : List Int) : Sortable (ns.map PyData.int) := .inr fun d hd => by
  obtain ⟨b, _, rfl⟩ := List.mem_map.mp hd
  exact ⟨(fun z => nomatch z), (fun xs z => nomatch z)⟩
theorem sorted_setB {S : Int → Bool} {n : Nat} {Q : Value → Shared → Prop} (R : SetR w s.heap a S n) (hh : A.handled = none) (hu : A.units + 2 < cLine)
    (hQ : ∀ s' p (out : Array Value) (c : Nat) (ns : List Int), (∀ b o, s.heap.get? b = some o → s'.heap.get? b = some o) → s'.gens = s.gens → s'.os = s.os → s.heap.objs.size ≤ p →
      s'.heap.get? p = some (seqObj "list" out c) → IntsAre out.toList ns → ns.Pairwise (· < ·) → (∀ k, k ∈ ns ↔ S k = true) → ns.length = n → n ≤ sizeLine → Q (.ref p) s') :
    wpAny (model P w) A (call (.builtin "sorted") [.ref a]) Q E s := by
  obtain ⟨o, es, ep, t, ho, hex, hd, g, nd, hm, hb, hf, hn, hr, hl⟩ := R
  have hz : n ≤ sizeLine := by
    have := fits_of_scanBound hb
    rw [← hn]
    exact this
  refine Calls.call_function_entry kind_sorted plain_sorted entry_sorted (args_sorted1 _) ?_
  unfold Builtin.«sorted»
  refine wpAny_bind (m := checkCount "sorted" 1 1 _) (wpAny_pure ?_)
  refine wpAny_bind (collect_set (A := A.in1) hh ⟨o, ho, hex.1, hd⟩ hf hb hr hl fun s1 vs k1 hz1 g1 o1 pm => ?_)
  have hvl : vs.length = n := by rw [pm.length_eq, List.length_map, Array.length_toList]; exact hn
  have hI : IntsAre vs (vs.map Builtin.Re.reRawOf) := L2.ints_of vs fun v hv => by
    obtain ⟨e, he, q⟩ := List.mem_map.mp (pm.mem_iff.mp hv)
    obtain ⟨k, tk, h1, _⟩ := g e he
    exact ⟨k, tk, by rw [← q]; exact h1⟩
  have pk : (vs.map Builtin.Re.reRawOf).Perm (es.toList.map keyOf) := by
    have q := pm.map Builtin.Re.reRawOf
    rw [List.map_map] at q
    exact q
  have eI := each_ints hI
  generalize vs.map Builtin.Re.reRawOf = bs at pk eI hI
  refine wpAny_bind (wpAny_newList ?_ (by rw [hvl]; exact hz))
  have hoL : (s1.heap.push (seqObj "list" vs.toArray 0)).get? s1.heap.objs.size = some (seqObj "list" vs.toArray 0) := Heap.get?_push_size _ rfl
  have er : ∀ h' : Heap, EachIs (fun v b => ∃ as, Reads h' v (PyData.int b) as) vs bs := fun h' => eI.mono fun v b ⟨tk, e⟩ => ⟨[], by rw [e]; exact .int _ _⟩
  refine wpAny_bind (wpAny_holding (wpAny_call_entry slot_list_sort ⟨_, hoL, rfl⟩ entry_list_sort (PySem.W.list_sort_vals (κ := PySem.W.dataKind (PySem.W.sortingHeap (s1.heap.push (seqObj "list" vs.toArray 0)) s1.heap.objs.size vs) (bs.map PyData.int)) hoL
    (PySem.W.SortsAt.data (PySem.W.each_map (R := fun v d => ∃ as, Reads _ v d as) PyData.int (er _)) (ints_alike' bs) (ints_sortable' bs) (fun d hd => ?_)) (by rw [hvl]; exact hz) ⟨_, rfl, ?_⟩) (args_list_sort _)))
  · obtain ⟨b, _, rfl⟩ := List.mem_map.mp hd
    exact hu
  have eo := PySem.W.sortVals_data (h' := PySem.W.sortingHeap (s1.heap.push (seqObj "list" vs.toArray 0)) s1.heap.objs.size vs) false eI (er _) (ints_alike' bs)
  generalize PySem.W.sortVals (PySem.W.dataKind (PySem.W.sortingHeap (s1.heap.push (seqObj "list" vs.toArray 0)) s1.heap.objs.size vs) (bs.map PyData.int)) false vs vs = out at eo
  have a1 := ints_each eo
  have a2 : (bs.mergeSort (dataLe false PyData.int)).Perm bs := List.mergeSort_perm _ _
  have a3 : (bs.mergeSort (dataLe false PyData.int)).Pairwise (· ≤ ·) := by
    have e : dataLe false PyData.int = fun a b : Int => decide (a ≤ b) := PySem.W.dataLe_int fun b : Int => b
    rw [e]
    have := List.pairwise_mergeSort (le := fun a b : Int => decide (a ≤ b)) (fun a b c h1 h2 => by simp at *; omega) (fun a b => by simp; omega) bs
    exact this.imp fun h => by simpa using h
  generalize bs.mergeSort (dataLe false PyData.int) = ns' at a1 a2 a3
  obtain ⟨c, hc⟩ := sortedHeap_at (vs := vs) (out := out.toArray) hoL
  have pn : ns'.Perm (es.toList.map keyOf) := a2.trans pk
  refine wpAny_pure ⟨_, rfl, hQ _ s1.heap.objs.size out.toArray c ns' (fun b u e => ?_) g1 o1 hz1 hc (by rw [List.toList_toArray]; exact a1) (lt_of_le_nodup ns' a3 (pn.nodup_iff.mpr nd)) (fun k => by rw [pn.mem_iff, ← hm k]) ?_ hz⟩
  · have q := k1 b u e
    have hlt := Heap.lt_size q
    show (sortedHeap (s1.heap.push (seqObj "list" vs.toArray 0)) s1.heap.objs.size vs out.toArray).get? b = some u
    rw [sortedHeap_old (Nat.ne_of_lt hlt) (by rw [size_push']; exact Nat.lt_succ_of_lt hlt)]
    exact Heap.get?_push_of_some _ q
  · rw [pn.length_eq, List.length_map, Array.length_toList]; exact hn
end
/-- sorted(found), any number -/
def rSortedSetB (w : World) : List V → Hp → VK → Prop := fun vs H Q => ∃ (a : Addr) (S : Int → Bool) (n : Nat), vs = [V.ref a] ∧ H a = some (SetO w a S n) ∧
  ∀ (ns : List Int) (p : Addr), ns.Pairwise (· < ·) → (∀ k : Int, k ∈ ns ↔ S k = true) → ns.length = n → H p = none → Q (.ref p) (upd H p (.lst (ns.map V.int)))
theorem cr_sortedSetB {X : Cx} (hc : X.calm = true) (hu : X.A.units + 64 < cLine) : CallR X (.builtin "sorted") (rSortedSetB X.w) := by
  intro pins s σ H vs us Q I r h
  obtain ⟨a, S, n, rfl, ha, q⟩ := h
  have R := setO_get I ha
  rw [Vals.ref1 r]
  refine sorted_setB R (I.ok.hd hc) (by omega) fun s' p out c ns k g o hp hg hi hs hm hl hz => ?_
  have hlen : (ns.map V.int).length ≤ sizeLine := by rw [List.length_map, hl]; exact hz
  have hn : H p = none := I.hok.fresh hp
  have J : Inv X pins σ (upd H p (.lst (ns.map V.int))) { s with heap := s'.heap, gens := s'.gens, drawn := s'.drawn, toks := s'.toks } :=
    I.call (ch := []) (Un.laid k hp hn) (I.hok.laid k hp ⟨hlen, out.toList, c, vals_of_ints hi, hg⟩) (by rw [g]; exact I.bare) (fun _ z => nomatch z)
  have e : s' = { s with heap := s'.heap, gens := s'.gens, drawn := s'.drawn, toks := s'.toks } := by
    cases s'
    cases s
    cases o
    rfl
  rw [e]
  exact ⟨.ref p, _, J, rfl, q ns p hs hm hl hn⟩
section
variable {M : Md} {O : List Addr} {r : List Sl} {k : D → Prop} {te : TE} {P : Program} {w : World}
theorem de_sortedSetB (h : De M te O r fun x => ∃ ns : List Int, (x = .lst (ns.map D.int) ∨ x = .tup (ns.map D.int)) ∧ ns.length + 1 < scanBound ∧
      ∀ ys : List Int, ys.Pairwise (· < ·) → (∀ k, k ∈ ys ↔ k ∈ ns) → k (.lst (ys.map D.int))) :
    De M (tCB (rSortedSetB w) (tCons (tCB (rSetI M.K w) (tCons te tNil)) tNil)) O r k := fun σ H Q R z => h σ H _ R fun v H1 x R1 e1 p1 q => by
  obtain ⟨ns, c, room, q⟩ := q
  have seq : ∃ p, v = .ref p ∧ (SqL M.K H1 p (ns.map V.int) ∨ SqT M.K H1 p (ns.map V.int)) := by
    rcases c with rfl | rfl
    · obtain ⟨a, vs, rfl, h1, h2⟩ := p1
      rw [repL_ints h2] at h1
      exact ⟨a, rfl, .inl h1.sq⟩
    · obtain ⟨a, vs, rfl, h1, h2⟩ := p1
      rw [repL_ints h2] at h1
      exact ⟨a, rfl, .inr h1.sq⟩
  obtain ⟨p, rfl, sq⟩ := seq
  refine ⟨p, ns, rfl, sq, room, fun q' l l1 l2 hq => ?_⟩
  refine ⟨q', _, _, rfl, upd_same, fun ys p' y1 y2 _ hp => ?_⟩
  have R2 := R1.grow (sm_new (o := SetO w q' (fun j => decide (j ∈ ns)) l.length) hq)
  exact z (.ref p') _ (.lst (ys.map D.int)) (R2.grow (sm_new hp)) ((e1.trans (sm_0 (sm_new hq))).trans (sm_0 (sm_new hp))) (rep_lst R2 hp (repL_of_ints ys)) (q ys y1 fun k => by rw [y2, decide_eq_true_eq])
end
end Dw

/-! K02d: the least masks. -/
namespace Dw
open PySem PySem.Spec PyProof.Rows L2
abbrev sLea : Stmt := topW 6
abbrev nLea : List Str := ["masks", "least", "mask", "kept"]
theorem scLea : FnScope nLea ["masks"] (defScope sLea) := ⟨rfl, rfl, rfl, by decide +kernel, rfl, by decide +kernel, by decide +kernel⟩
abbrev natD (n : Nat) : D := .int (n : Int)
def MasksD (x : D) (ms : List Nat) : Prop := x = .lst (ms.map natD) ∨ x = .tup (ms.map natD)
def preLea (ds : List D) : Prop := ∃ (x : D) (ms : List Nat), ds = [x] ∧ MasksD x ms ∧ ms.length + 1 < scanBound
def postLea (ds : List D) (d : D) : Prop := ∃ (x : D) (ms zs : List Nat), ds = [x] ∧ MasksD x ms ∧ zs.Pairwise (· < ·) ∧ (∀ k, k ∈ zs ↔ k ∈ ms) ∧ d = .lst ((keep within [] zs).map natD)
theorem keep_snoc {α : Type} (sub : α → α → Bool) (x : α) : ∀ (xs acc : List α), keep sub acc (xs ++ [x]) = if (keep sub acc xs).any (fun k => sub k x) = true then keep sub acc xs else keep sub acc xs ++ [x]
  | [], acc => by
    show keep sub acc [x] = _
    unfold keep
    rfl
  | y :: xs, acc => by
    show keep sub acc (y :: (xs ++ [x])) = _
    unfold keep
    split
    · exact keep_snoc sub x xs acc
    · exact keep_snoc sub x xs (acc ++ [y])
/-- is this kept one within m? -/
def inE (m : Nat) : D → D
  | .int k => .bl (decide (V.int (Builtin.bitAnd (m : Int) k) = V.int k))
  | _ => .non
theorem inE_nat (m k : Nat) : inE m (natD k) = .bl (within k m) := by
  refine congrArg D.bl (decide_eq_decide.mpr ⟨fun z => ?_, fun z => ?_⟩)
  · have z := V.int.inj z
    rw [PyProof.Rows.bitAnd_pp (by omega) (by omega), Int.toNat_natCast, Int.toNat_natCast] at z
    exact Int.ofNat.inj z
  · rw [PyProof.Rows.bitAnd_pp (by omega) (by omega), Int.toNat_natCast, Int.toNat_natCast, z]
theorem keep_len {α : Type} (sub : α → α → Bool) : ∀ (xs acc : List α), (keep sub acc xs).length ≤ acc.length + xs.length
  | [], acc => Nat.le_refl _
  | x :: xs, acc => by
    unfold keep
    split
    · have := keep_len sub xs acc
      rw [List.length_cons]
      omega
    · have := keep_len sub xs (acc ++ [x])
      rw [List.length_append, List.length_singleton] at this
      rw [List.length_cons]
      omega
section
variable {P : Program} {w : World} {K : PySem.W.Frag} {mg : Str → Option Value} {base : Heap}
theorem ok_lea {f : Addr} {fd : FuncData} {k : Nat} (F : Fun K "least_masks" "least_masks" sLea f fd) (mSo : mg "sorted" = none) (mSe : mg "set" = none) (mA : mg "any" = none) : FnOk P w K mg base CX0 (k + 1) f fd ["masks"] (SpP K preLea postLea) := by
  refine fn_dw (S := pure0) F scLea (fun g ds ⟨x, ms, e, _⟩ => by rw [e]; rfl) fun cdv A outer s H E g ds F1 f0 tr hr pre => ?_
  have hu := hr.units
  obtain ⟨x, ms, rfl, hx, room⟩ := pre
  have room2 := fits_of_scanBound room
  refine ⟨_, pss_cons (ps_set (i := 1) scLea.nd rfl (Or.inl rfl) (pe_lst pa_nil)) (pss_cons (ps_for PassesOwn.never rfl
    (pi_list (pe_callB (cr_sortedSetB (by rfl) hu) (by rfl) mSo (by decide +kernel) (pa_cons (pe_callTy (cr_setI (by rfl)) (by rfl) mSe (by decide +kernel) (pa_cons (pv 0) pa_nil)) pa_nil))) (pg_name (i := 2) scLea.nd rfl (Or.inr rfl))
    (pss_one (ps_if (pt_not (pt_val (pe_callB (cr_any (by rfl)) (by rfl) mA (by decide +kernel) (pa_cons (pe_lc (own := [("kept", 3)]) (g := gName 3) (tt := tYes) (by rfl) scLea.nd (pi_list (pv 1)) (blkOk_by (N := nLea) (sc := defScope sLea) (by decide +kernel))
      (fun _ _ _ _ _ => pg_name (i := 3) scLea.nd rfl (Or.inl rfl)) (fun _ _ _ _ _ => pts_nil) (fun _ _ _ _ _ => pe_cmpR op_eq (pe_op op_and (pv 2) (pv 3)) (pv 3) (nomark _))) pa_nil))))
      (pss_one (ps_expr (pe_bm PySem.F.plainAttrs_list PySem.F.slot_list_append PySem.F.type_list_append mt_append (pv 1) (pa_cons (pv 2) pa_nil)))) pss_nil))) (pss_one (ps_ret (pv 1)))), ?_⟩
  refine ds_seq (ds_own (da_nil ⟨Nat.zero_le _, fun p hp => ?_⟩))
  show DS _ _ _ _ _
  refine ds_seq (ds_for (js := [2]) (di_list (de_sortedSetB (de_var rfl ⟨ms.map fun n : Nat => (n : Int), ?_, by rw [List.length_map]; exact room, fun ys y1 y2 => ⟨_, rfl, ?_⟩⟩))))
  · rw [List.map_map]
    exact hx
  have ez : ∃ zs : List Nat, ys = zs.map fun n : Nat => (n : Int) := ⟨ys.map Int.toNat, by
    rw [List.map_map]
    refine (List.map_id ys).symm.trans (List.map_congr_left fun y hy => ?_)
    obtain ⟨m, _, rfl⟩ := List.mem_map.mp ((y2 y).1 hy)
    rfl⟩
  obtain ⟨zs, rfl⟩ := ez
  have z1 : zs.Pairwise (· < ·) := (List.pairwise_map.mp y1).imp fun h => Int.ofNat_lt.mp h
  have z2 : ∀ k, k ∈ zs ↔ k ∈ ms := fun k => by
    have z := y2 (k : Int)
    rw [List.mem_map, List.mem_map] at z
    exact ⟨fun h => by
      obtain ⟨m, hm, e⟩ := z.1 ⟨k, h, rfl⟩
      rw [← Int.ofNat.inj e]
      exact hm, fun h => by
      obtain ⟨m, hm, e⟩ := z.2 ⟨k, h, rfl⟩
      rw [← Int.ofNat.inj e]
      exact hm⟩
  have zl : zs.length < sizeLine := by
    have := len_subI (B := ms) (z1.imp fun h => Nat.ne_of_lt h) fun y hy => (z2 y).1 hy
    omega
  rw [List.map_map]
  refine ⟨fun i O r => O = [p] ∧ ∃ s2 s3 : Sl, r = [.d x, .mu p ((keep within [] (zs.take i)).map natD), s2, s3], ⟨rfl, _, _, rfl⟩, fun i y O' r' hy hv => ?_, fun O' r' hv => ?_⟩
  · obtain ⟨rfl, s2, s3, rfl⟩ := hv
    rw [List.getElem?_map] at hy
    obtain ⟨m, hm, rfl⟩ := Option.map_eq_some_iff.mp hy
    have kl := keep_len within (zs.take i) []
    have tl : (zs.take i).length < sizeLine := by rw [List.length_take]; omega
    have next : keep within [] (zs.take (i + 1)) = if (keep within [] (zs.take i)).any (fun k => within k m) = true then keep within [] (zs.take i) else keep within [] (zs.take i) ++ [m] := by
      rw [List.take_add_one, hm]
      exact keep_snoc within m _ _
    refine dg_name (ds_if (dt_not (dt_B (de_borrow 1 rfl (de_any (de_lcF (fun _ => true) (inE m) (js := [3]) (by decide) (di_list (de_var rfl ⟨_, rfl, ?_, ?_, ?_⟩))))))))
    · rw [List.length_map]
      rw [List.length_nil] at kl; omega
    · intro O2 j d hd
      rw [List.getElem?_map] at hd
      obtain ⟨c, hc, rfl⟩ := Option.map_eq_some_iff.mp hd
      exact dg_name (dt_yes ⟨rfl, fun _ => de_eq (de_intI (de_var rfl (de_var rfl ⟨_, _, rfl, rfl, de_var rfl ⟨_, _, rfl, rfl, rfl, rfl⟩⟩)))⟩)
    · refine ⟨(keep within [] (zs.take i)).map fun k => within k m, ?_, rfl, _, rfl, ?_⟩
      · rw [List.filter_eq_self.mpr fun _ _ => rfl, List.map_map, List.map_map]
        exact congrArg D.lst (List.map_congr_left fun k _ => inE_nat m k)
      rw [List.any_map]
      by_cases h : (keep within [] (zs.take i)).any (fun k => within k m) = true
      · rw [if_neg (by show ¬ (!((keep within [] (zs.take i)).any fun k => within k m)) = true; rw [h]; decide)]
        refine ds_next ⟨rfl, .d (natD m), s3, ?_⟩
        rw [next, if_pos h]
        rfl
      · rw [if_pos (by show (!((keep within [] (zs.take i)).any fun k => within k m)) = true; rw [Bool.eq_false_iff.mpr h]; rfl)]
        refine ds_append (i := 1) rfl (by rw [List.length_map]; rw [List.length_nil] at kl; omega) (de_var rfl ⟨rfl, .d (natD m), s3, ?_⟩)
        rw [next, if_neg h, List.map_append]
        rfl
  · obtain ⟨rfl, s2, s3, rfl⟩ := hv
    rw [List.length_map, List.take_length]
    exact ds_freeze 1 rfl (ds_ret (de_var rfl ⟨x, ms, zs, rfl, hx, z1, z2, rfl⟩))
end
end Dw

/-! LWa: the items in a drawn order. -/
namespace Dw
open PySem PySem.Spec PyProof.Rows L2
abbrev nMix : List Str := ["_law_deal_here", "_law_items", "_law_left", "_law_found", "_law_turn"]
theorem scMix : FnScope nMix ["_law_deal_here", "_law_items"] (defScope sMix) := ⟨rfl, rfl, rfl, by decide +kernel, rfl, by decide +kernel, by decide +kernel⟩
local macro_rules | `(tactic| walk_at "dw") => `(tactic| first
  | refine de_var rfl ?_ | refine de_int ?_ | refine de_str ?_ | refine de_bl ?_ | refine de_non ?_
  | refine de_intI ?_ | refine de_intB ?_ | refine de_intC ?_ | refine de_eq ?_ | refine de_ne ?_
  | refine da_nil ?_ | refine da_cons ?_ | refine de_max2 ?_ | refine do_none ?_ | refine do_some ?_ | refine dt_test ?_ | refine dt_B ?_ | refine dt_yes ?_
  | refine ⟨_, _, rfl, rfl, ?_⟩ | refine ⟨_, rfl, ?_⟩)
def preMix (g : Addr × Addr) (ds : List D) : Prop := ∃ (x : D) (xs : List D), ds = [.ref g.1, x] ∧ (x = .lst xs ∨ x = .tup xs) ∧ xs.length ≤ 1000
def postMix (_ : Addr × Addr) (ds : List D) (d : D) : Prop := ∃ xs ys : List D, (ds[1]? = some (.lst xs) ∨ ds[1]? = some (.tup xs)) ∧ d = .lst ys ∧ ys.Perm xs
section
variable {P : Program} {w : World} {K : PySem.W.Frag} {mg : Str → Option Value} {base : Heap}
theorem ok_mix {f fD : Addr} {fd fdD : FuncData} {k : Nat} (F : Fun K "_law_mixed" "_law_mixed" sMix f fd) (FD : FnOk P w K mg base CX0 k fD fdD ["_law_deal_here", "_law_many"] (spDraw K)) (gD : mg "_law_draw" = some (.ref fD)) (kD : PySem.W.keepIn K (.ref fD) = true) (bD : Binds K fdD ["_law_deal_here", "_law_many"] [])
    (mL : mg "list" = none) (mN : mg "len" = none) (mR : mg "range" = none) : FnOk P w K mg base CX0 (k + 1) f fd ["_law_deal_here", "_law_items"] (SpD K dealS preMix postMix) := by
  refine fn_dw (S := dealS) F scMix (fun g ds ⟨x, xs, e, _⟩ => by rw [e]; rfl) fun cdv A outer s H E g ds F1 f0 tr hr pre => ?_
  obtain ⟨x, xs, rfl, hx, hl⟩ := pre
  have h0 : (mdOf K dealS g H F1 f0 tr).F0 = dealS.F0 g := rfl
  have hI : (mdOf K dealS g H F1 f0 tr).I = dealS.I g := rfl
  refine ⟨_, pss_cons (ps_par (i := 2) (j := 3) rfl scMix.nd rfl rfl (by decide) rfl rfl (pa_cons (pe_callTy call_list_of (by rfl) mL (by decide +kernel) (pa_cons (pv 1) pa_nil)) (pa_cons (pe_lst pa_nil) pa_nil)) (by rfl))
    (pss_cons (ps_for PassesOwn.never rfl (pi_range1 (by rfl) mR (pa_cons (pe_callB call_len_seq (by rfl) mN PySem.boot_len (pa_cons (pv 2) pa_nil)) pa_nil)) (pg_name (i := 4) scMix.nd rfl (Or.inl rfl))
      (pss_one (ps_expr (pe_bm PySem.F.plainAttrs_list PySem.F.slot_list_append PySem.F.type_list_append mt_append (pv 3)
        (pa_cons (pe_bm PySem.F.plainAttrs_list PySem.F.slot_list_pop PySem.F.type_list_pop mt_popAt (pv 2)
          (pa_cons (pe_call FD hr (by rfl) gD kD bD .nil pass0 (pa_cons (pv 0) (pa_cons (pe_callB call_len_seq (by rfl) mN PySem.boot_len (pa_cons (pv 2) pa_nil)) pa_nil))) pa_nil)) pa_nil)))))
    (pss_one (ps_ret (pv 3)))), ?_⟩
  refine ds_seq (ds_parOwn (by decide) (by show 2 < 5; decide) (by show 3 < 5; decide) (de_var rfl ⟨xs, hx, fun p q hp hq hpq => ?_⟩))
  show DS _ _ _ _ _
  refine ds_seq (ds_for (js := [4]) (di_range1 (da_cons (de_borrow 2 rfl (de_len (de_var rfl ⟨xs, .inl rfl, rfl, da_nil ⟨_, rfl, ⟨by omega, by omega⟩, ?_⟩⟩))))))
  refine ⟨fun i O r => O = [q, p] ∧ ∃ (left found : List D) (s : Sl), left.length + i = xs.length ∧ found.length = i ∧ (found ++ left).Perm xs ∧ r = [.d (.ref g.1), .d x, .mu p left, .mu q found, s],
    ⟨rfl, xs, [], .un, rfl, rfl, .refl _, rfl⟩, fun i y O' r' hy hv => ?_, fun O' r' hv => ?_⟩
  · obtain ⟨rfl, left, found, s', hle, hfo, hp, rfl⟩ := hv
    obtain ⟨hi, rfl⟩ := rangeD_get hy
    refine dg_name (ds_appendPop (i := 2) (j := 3) rfl rfl (by decide) (by rw [hfo]; exact Nat.lt_of_lt_of_le (by omega : i < 1001) (by decide)) (de_call g h0 hI (da_cons (de_var rfl (da_cons (de_borrow 2 rfl (de_len (de_var rfl ⟨left, .inl rfl, rfl, da_nil ?_⟩))))))))
    refine ⟨⟨left.length, rfl, by omega, by omega⟩, fun d ⟨n, m, e, ed, m0, m1⟩ => ?_⟩
    cases e
    subst ed
    refine ⟨m.toNat, by rw [Int.toNat_of_nonneg m0], by omega, by omega, fun z hz => ⟨rfl, left.eraseIdx m.toNat, found ++ [z], _, ?_, ?_, ?_, rfl⟩⟩
    · rw [List.length_eraseIdx_of_lt (by omega)]
      omega
    · rw [List.length_append, hfo]
      rfl
    · have hm : m.toNat < left.length := by omega
      have e1 : left[m.toNat] = z := by
        rw [List.getElem?_eq_getElem hm] at hz
        exact Option.some.inj hz
      have e2 : (left[m.toNat] :: left.eraseIdx m.toNat).Perm left := by
        rw [List.eraseIdx_eq_take_drop_succ]
        refine List.perm_middle.symm.trans ?_
        rw [List.getElem_cons_drop, List.take_append_drop]
      rw [e1] at e2
      rw [List.append_assoc]
      exact ((List.Perm.append_left found e2)).trans hp
  · obtain ⟨rfl, left, found, s', hle, hfo, hp, rfl⟩ := hv
    rw [rangeD_len] at hle hfo
    have e0 : left = [] := List.length_eq_zero_iff.mp (by omega)
    subst e0
    rw [List.append_nil] at hp
    refine ds_freeze 3 rfl (ds_ret (de_var rfl ⟨xs, found, ?_, rfl, hp⟩))
    rcases hx with rfl | rfl
    · exact .inl rfl
    · exact .inr rfl
end
end Dw

/-! LWb: a name of any letters. -/
namespace Dw
open PySem PySem.Spec PyProof.Rows L2
local macro_rules | `(tactic| walk_at "dw") => `(tactic| first
  | refine de_var rfl ?_ | refine de_int ?_ | refine de_str ?_ | refine de_bl ?_ | refine de_non ?_
  | refine de_intI ?_ | refine de_intB ?_ | refine de_intC ?_ | refine de_eq ?_ | refine de_ne ?_
  | refine da_nil ?_ | refine da_cons ?_ | refine de_max2 ?_ | refine do_none ?_ | refine do_some ?_ | refine dt_test ?_ | refine dt_B ?_ | refine dt_yes ?_
  | refine ⟨_, _, rfl, rfl, ?_⟩ | refine ⟨_, rfl, ?_⟩)
def alpha : List Nat := [97, 98, 99, 100, 101, 102, 103, 104, 105, 106, 107, 108, 109, 110, 111, 112, 113, 114, 115, 116, 117, 118, 119, 120, 121, 122]
theorem alpha_is : (("abcdefghijklmnopqrstuvwxyz" : String) : Str) = tx alpha := by decide +kernel
theorem alpha_at {m : Int} (h0 : 0 ≤ m) (h1 : m < 26) : atI alpha m = some (97 + m.toNat) := by
  obtain ⟨n, rfl⟩ := Int.eq_ofNat_of_zero_le h0
  have hn : n < 26 := by omega
  have key : ∀ k, k < 26 → atI alpha ((k : Nat) : Int) = some (97 + k) := by decide +kernel
  exact key n hn
/-- small letters alone -/
def Low (l : List Nat) : Prop := ∀ c ∈ l, 97 ≤ c ∧ c ≤ 122
theorem Low.one {c : Nat} (h : 97 ≤ c ∧ c ≤ 122) : Low [c] := fun x hx => by
  rw [List.mem_singleton.mp hx]
  exact h
theorem Low.app {a b : List Nat} (h : Low a) (g : Low b) : Low (a ++ b) := fun c hc => (List.mem_append.mp hc).elim (h c) (g c)
theorem Low.flat {ls : List (List Nat)} (h : ∀ l ∈ ls, Low l) : Low ls.flatten := fun c hc => by
  obtain ⟨l, hl, hc⟩ := List.mem_flatten.mp hc
  exact h l hl c hc
theorem Low.take {l : List Nat} (n : Nat) (h : Low l) : Low (l.take n) := fun c hc => h c (List.mem_of_mem_take hc)
theorem Low.drop {l : List Nat} (n : Nat) (h : Low l) : Low (l.drop n) := fun c hc => h c (List.mem_of_mem_drop hc)
/-- the words of rules -/
def rsv : List (List Nat) := [[97, 108, 108], [97, 110, 121], [111, 102], [97, 108, 119, 97, 121, 115], [110, 101, 118, 101, 114], [110, 111, 110, 101]]
theorem rsv_is : ([("all" : Str), ("any" : Str), ("of" : Str), ("always" : Str), ("never" : Str), ("none" : Str)] : List Str) = rsv.map tx := by decide +kernel
theorem rsv_mem {w : List Nat} : (tx w ∈ rsv.map tx) ↔ w ∈ rsv := ⟨fun h => by
  obtain ⟨v, hv, e⟩ := List.mem_map.mp h
  rw [← tx_inj e]
  exact hv, fun h => List.mem_map.mpr ⟨w, h, rfl⟩⟩
abbrev nAny : List Str := ["_law_deal_here", "_law_last", "_law_letters", "_law_word", "_law_sign"]
theorem scAny : FnScope nAny ["_law_deal_here", "_law_last"] (defScope sAny) := ⟨rfl, rfl, rfl, by decide +kernel, rfl, by decide +kernel, by decide +kernel⟩
def preAny (g : Addr × Addr) (ds : List D) : Prop := ∃ c : Nat, ds = [.ref g.1, .str (tx [c])] ∧ 97 ≤ c ∧ c ≤ 122
def postAny (_ : Addr × Addr) (ds : List D) (d : D) : Prop := ∃ (c : Nat) (u : List Nat), ds[1]? = some (.str (tx [c])) ∧ d = .str (tx (u ++ [c])) ∧ Low (u ++ [c]) ∧ u.length ≤ 5 ∧ u ++ [c] ∉ rsv
/-- letters drawn, m of them -/
theorem pieces_len {ls : List (List Nat)} (h : ∀ l ∈ ls, l.length = 1) : ls.flatten.length = ls.length ∧ (ls.map List.length).sum = ls.length := by
  induction ls with
  | nil => exact ⟨rfl, rfl⟩
  | cons l ls ih =>
    obtain ⟨h1, h2⟩ := ih fun x hx => h x (by simp [hx])
    have e := h l (by simp)
    constructor
    · rw [List.flatten_cons, List.length_append, h1, e, List.length_cons]
      omega
    · rw [List.map_cons, List.sum_cons, h2, e, List.length_cons]
      omega
theorem strs_of {ys : List D} (h : ∀ (i : Nat) y, ys[i]? = some y → ∃ l : List Nat, y = .str (tx l) ∧ l.length = 1 ∧ Low l) : ∃ ls : List (List Nat), ys = ls.map (fun l => D.str (tx l)) ∧ (∀ l ∈ ls, l.length = 1 ∧ Low l) := by
  induction ys with
  | nil => exact ⟨[], rfl, fun l h => nomatch h⟩
  | cons y ys ih =>
    obtain ⟨l, rfl, h1, h2⟩ := h 0 y rfl
    obtain ⟨ls, rfl, h3⟩ := ih fun i z hz => h (i + 1) z hz
    exact ⟨l :: ls, rfl, fun x hx => (List.mem_cons.mp hx).elim (fun e => by rw [e]; exact ⟨h1, h2⟩) (h3 x)⟩
section
variable {P : Program} {w : World} {K : PySem.W.Frag} {mg : Str → Option Value} {base : Heap}
/-- "".join([letters[draw(26)] for .. in range(draw(n))]) -/
theorem de_letters {M : Md} {O : List Addr} {r : List Sl} {q : D → Prop} {g : Addr × Addr} {i a s : Nat} {n : Int} {E1 E2 : XK} (h0 : M.F0 = dealS.F0 g) (hI : M.I = dealS.I g) (n0 : 0 < n) (n1 : n ≤ 100) (hr : r[i]? = some (.d (.ref g.1)))
    (w1 : ∀ x, ((wipeR r [s]).set s (.d x))[i]? = some (.d (.ref g.1))) (w2 : ∀ x, ((wipeR r [s]).set s (.d x))[a]? = some (.d (.str (tx alpha)))) (h : ∀ u : List Nat, (u.length : Int) < n → Low u → q (.str (tx u))) :
    De M (tM1 (rJoin M.K) (tC (.str "")) (tLc (iRng1 (tCons (tCall (spDraw M.K) [] E1 (tCons (tVar i) (tCons (tC (.int n)) tNil))) tNil)) (gName s) tYes (tOp rIxS (tVar a) (tCall (spDraw M.K) [] E2 (tCons (tVar i) (tCons (tC (.int 26)) tNil)))) [s])) O r q := by
  refine de_join0 (de_lcP (js := [s]) (fun _ _ y => ∃ l : List Nat, y = .str (tx l) ∧ l.length = 1 ∧ Low l) (fun j h => h) (di_range1 (da_cons (de_draw h0 hI hr n0 (by omega) fun m m0 m1 => da_nil ⟨m, rfl, ⟨by omega, by omega⟩, ?_⟩))))
  refine ⟨by rw [rangeD_len]; exact Nat.lt_of_lt_of_le (by omega : m.toNat < 1000) (by decide), fun O' j x hx => dg_name ?_, fun ys hl hc => ?_⟩
  · refine de_ixS (de_var (w2 x) (de_draw h0 hI (w1 x) (by decide) (by decide) fun v v0 v1 => ⟨alpha, v, _, rfl, rfl, by decide, alpha_at v0 v1, _, rfl, rfl, Low.one ⟨by omega, by omega⟩⟩))
  · rw [rangeD_len] at hl
    obtain ⟨ls, rfl, h1⟩ := strs_of fun j y hy => by
      obtain ⟨z, ez⟩ : ∃ z, (rangeD 0 m.toNat)[j]? = some z := ⟨_, List.getElem?_eq_getElem (by rw [rangeD_len, ← hl]; exact (List.getElem?_eq_some_iff.mp hy).1)⟩
      exact hc j z y ez hy
    rw [List.length_map] at hl
    obtain ⟨p1, p2⟩ := pieces_len fun l hl => (h1 l hl).1
    exact ⟨ls, rfl, by omega, h _ (by omega) (Low.flat fun l hl => (h1 l hl).2)⟩
theorem not_b : ∀ w ∈ rsv, w.head? ≠ some 98 ∧ 2 ≤ w.length := by decide +kernel
theorem ok_any {f fD : Addr} {fd fdD : FuncData} {k : Nat} (F : Fun K "_law_any_word" "_law_any_word" sAny f fd) (FD : FnOk P w K mg base CX0 k fD fdD ["_law_deal_here", "_law_many"] (spDraw K)) (gD : mg "_law_draw" = some (.ref fD)) (kD : PySem.W.keepIn K (.ref fD) = true) (bD : Binds K fdD ["_law_deal_here", "_law_many"] [])
    (mR : mg "range" = none) : FnOk P w K mg base CX0 (k + 1) f fd ["_law_deal_here", "_law_last"] (SpD K dealS preAny postAny) := by
  refine fn_dw (S := dealS) F scAny (fun g ds ⟨c, e, _⟩ => by rw [e]; rfl) fun cdv A outer s H E g ds F1 f0 tr hr pre => ?_
  obtain ⟨c, rfl, c0, c1⟩ := pre
  have h0 : (mdOf K dealS g H F1 f0 tr).F0 = dealS.F0 g := rfl
  have hI : (mdOf K dealS g H F1 f0 tr).I = dealS.I g := rfl
  refine ⟨_, pss_cons (ps_set (i := 2) scAny.nd rfl (Or.inr rfl) pe_str)
    (pss_cons (ps_set (i := 3) scAny.nd rfl (Or.inl rfl) (pe_op op_add_str (pe_join pe_str (pe_lc (own := [("_law_sign", 4)]) (g := gName 4) (tt := tYes) (by rfl) scAny.nd (pi_range1 (by rfl) mR (pa_cons (pe_call FD hr (by rfl) gD kD bD .nil pass0 (pa_cons (pv 0) (pa_cons pe_int pa_nil))) pa_nil))
        (blkOk_by (N := nAny) (sc := defScope sAny) (by decide +kernel)) (fun _ _ _ _ _ => pg_name (i := 4) scAny.nd rfl (Or.inl rfl)) (fun _ _ _ _ _ => pts_nil)
        (fun _ _ _ _ _ => pe_ix ix_str (pv 2) (pe_call FD hr (by rfl) gD kD bD .nil pass0 (pa_cons (pv 0) (pa_cons pe_int pa_nil))) (fun _ _ => rfl)))) (pv 1)))
    (pss_one (ps_ret (pe_ifExp (pt_cmpR op_in_seq (pv 3) (pe_tup (pa_cons pe_str (pa_cons pe_str (pa_cons pe_str (pa_cons pe_str (pa_cons pe_str (pa_cons pe_str pa_nil))))))) (by rfl))
      (pe_op op_add_str pe_str (pe_slice sl_str (pv 3) (po_some pe_int) po_none)) (pv 3))))), ?_⟩
  refine ds_seq (ds_asg (de_str ?_))
  rw [alpha_is]
  refine ds_seq (ds_asg (de_addS (de_letters (i := 0) (a := 2) (s := 4) h0 hI (by decide) (by decide) rfl (fun _ => rfl) (fun _ => rfl) fun u hu lu => de_var rfl ⟨u, [c], rfl, rfl, ?_, ?_⟩)))
  · rw [List.length_singleton]
    exact Nat.le_trans (by omega : u.length + 1 ≤ 1000) (by decide)
  refine ds_ret (de_if (dt_test (de_inS (de_var rfl (de_tup ?_)))))
  repeat walk_at "dw"
  refine ⟨by show 6 ≤ sizeLine; decide, tx (u ++ [c]), [("all" : Str), ("any" : Str), ("of" : Str), ("always" : Str), ("never" : Str), ("none" : Str)], rfl, .inr rfl, _, rfl, ?_⟩
  rw [rsv_is]
  have lw : Low (u ++ [c]) := lu.app (Low.one ⟨c0, c1⟩)
  by_cases hm : tx (u ++ [c]) ∈ rsv.map tx
  · rw [decide_eq_true hm, if_pos rfl]
    have h2 := not_b _ (rsv_mem.mp hm)
    match u, h2, hu, lu, lw with
    | [], h2, _, _, _ => exact absurd h2.2 (by show ¬ 2 ≤ 1; decide)
    | x :: u', h2, hu, lu, lw =>
      refine de_addS (de_str (de_slS (de_var rfl ⟨x :: u' ++ [c], rfl, ?_, do_some (de_int ⟨1, rfl, do_none ⟨[98], _, ?_, rfl, ?_, c, 98 :: u', rfl, ?_, ?_, ?_, ?_⟩⟩)⟩)))
      · rw [List.length_append, List.length_singleton]
        exact Nat.le_trans (by omega : (x :: u').length + 1 ≤ 1000) (by decide)
      · exact congrArg D.str (by decide +kernel)
      · rw [cutN_from (by decide)]
        have e : ((x :: u' ++ [c]).drop (Int.toNat 1)).length = u'.length + 1 := by
          show (u' ++ [c]).length = _
          rw [List.length_append, List.length_singleton]
        rw [e, List.length_singleton]
        rw [List.length_cons] at hu
        exact Nat.le_trans (by omega : 1 + (u'.length + 1) ≤ 1000) (by decide)
      · rw [cutN_from (by decide)]
        rfl
      · refine Low.app (fun y hy => ?_) (Low.one ⟨c0, c1⟩)
        rcases List.mem_cons.mp hy with rfl | hy
        · exact ⟨by decide, by decide⟩
        · exact lu y (List.mem_cons_of_mem _ hy)
      · rw [List.length_cons] at hu ⊢
        omega
      · exact fun z => (not_b _ z).1 rfl
  · rw [decide_eq_false hm, if_neg Bool.false_ne_true]
    exact de_var rfl ⟨c, u, rfl, rfl, lw, by omega, fun z => hm (rsv_mem.mpr z)⟩
end
end Dw

/-! LWn: what makes lists of names good. -/
namespace Dw
open PySem PySem.Spec PyProof.Rows L2
def Name (w : List Nat) : Prop := Low w ∧ 1 ≤ w.length ∧ w.length ≤ 6 ∧ w ∉ rsv
instance (l : List Nat) : Decidable (Low l) := inferInstanceAs (Decidable (∀ c ∈ l, 97 ≤ c ∧ c ≤ 122))
instance (w : List Nat) : Decidable (Name w) := inferInstanceAs (Decidable (_ ∧ _ ∧ _ ∧ _))
/-- n different names -/
def Good (n : Nat) (ws : List (List Nat)) : Prop := ws.length = n ∧ ws.Nodup ∧ ∀ w ∈ ws, Name w
instance (n : Nat) (ws : List (List Nat)) : Decidable (Good n ws) := inferInstanceAs (Decidable (_ ∧ _ ∧ _))
def namesD (ws : List (List Nat)) : List D := ws.map fun l => D.str (tx l)
theorem namesD_len (ws : List (List Nat)) : (namesD ws).length = ws.length := by
  unfold namesD
  rw [List.length_map]
theorem Good.take {n m : Nat} {ws : List (List Nat)} (h : Good n ws) (hm : m ≤ n) : Good m (ws.take m) :=
  ⟨by rw [List.length_take, h.1]; omega, h.2.1.sublist (List.take_sublist _ _), fun w hw => h.2.2 w (List.mem_of_mem_take hw)⟩
theorem Good.perm {n : Nat} {ws us : List (List Nat)} (h : Good n ws) (p : us.Perm ws) : Good n us :=
  ⟨by rw [p.length_eq]; exact h.1, p.nodup_iff.mpr h.2.1, fun w hw => h.2.2 w (p.mem_iff.mp hw)⟩
/-- names told apart by a key -/
theorem good_by {α : Type} {n : Nat} {ys : List D} (key : List Nat → α) (κ : Nat → α) (hl : ys.length = n) (h : ∀ i y, i < n → ys[i]? = some y → ∃ w, y = .str (tx w) ∧ Name w ∧ key w = κ i) (inj : ∀ i j, i < n → j < n → κ i = κ j → i = j) :
    ∃ ws, ys = namesD ws ∧ Good n ws := by
  have split : ∃ ws : List (List Nat), ys = namesD ws ∧ ∀ (i : Nat) w, ws[i]? = some w → Name w ∧ key w = κ i := by
    refine ⟨ys.map fun y => match y with | .str s => s.cps.toList | _ => [], List.ext_getElem? fun i => ?_, fun i w e => ?_⟩
    · unfold namesD
      rw [List.map_map, List.getElem?_map]
      cases e : ys[i]? with
      | none => rfl
      | some y =>
        obtain ⟨w, rfl, _⟩ := h i y (by rw [← hl]; exact (List.getElem?_eq_some_iff.mp e).1) e
        rfl
    · rw [List.getElem?_map] at e
      cases e2 : ys[i]? with
      | none =>
        rw [e2] at e
        cases e
      | some y =>
        rw [e2] at e
        obtain ⟨u, rfl, h1⟩ := h i y (by rw [← hl]; exact (List.getElem?_eq_some_iff.mp e2).1) e2
        cases e
        exact h1
  obtain ⟨ws, e, hw⟩ := split
  have hn : ws.length = n := by rw [← namesD_len, ← e, hl]
  refine ⟨ws, e, hn, List.pairwise_iff_getElem.mpr fun i j hi hj hij q => ?_, fun w m => ?_⟩
  · have a1 := (hw i _ (List.getElem?_eq_getElem hi)).2
    have a2 := (hw j _ (List.getElem?_eq_getElem hj)).2
    rw [q, a2] at a1
    have := inj j i (by omega) (by omega) a1
    omega
  · obtain ⟨i, hi⟩ := List.getElem?_of_mem m
    exact (hw i w hi).1
/-- the k-th letter -/
def lt (turn : Int) (k : Nat) : Nat := 97 + ((turn + 7 * (k : Int)) % 26).toNat
theorem lt_ok (turn : Int) (k : Nat) : 97 ≤ lt turn k ∧ lt turn k ≤ 122 := by
  unfold lt
  omega
theorem lt_inj {turn : Int} {i j : Nat} (hi : i < 8) (hj : j < 8) (h : lt turn i = lt turn j) : i = j := by
  unfold lt at h
  omega
/-- no word of a rule holds one of these -/
theorem rsv_no : ∀ w ∈ rsv, 113 ∉ w ∧ 120 ∉ w ∧ 122 ∉ w ∧ 106 ∉ w ∧ 2 ≤ w.length := by decide +kernel
def deskW : List (List Nat) := [[112, 117, 116], [116, 97, 107, 101], [112, 114, 111, 112], [117, 110, 112, 114, 111, 112], [115, 116, 114, 105, 107, 101], [117, 110, 100, 111], [121, 97, 114, 100], [112, 114, 111, 112, 115], [103, 114, 111, 119], [100, 101, 112, 116, 104], [114, 101, 115, 116], [119, 97, 121], [104, 101, 114, 101], [112, 108, 97, 110]]
theorem desk_is : Txt.split "put take prop unprop strike undo yard props grow depth rest way here plan" " " = deskW.map tx := by decide +kernel
theorem desk_good : ∀ f, f < 14 → ∀ m, m ≤ 8 → Good m (((deskW ++ deskW).drop f).take m) := by decide +kernel
def plainW : List (List Nat) := [[98, 97, 115, 101], [108, 101, 102, 116], [114, 105, 103, 104, 116], [114, 111, 111, 102], [115, 111, 109, 101], [110, 101, 118, 101, 114, 115], [97, 108, 108, 111, 102], [111, 102, 97, 110, 121]]
theorem plain_is : Txt.split "base left right roof some nevers allof ofany" " " = plainW.map tx := by decide +kernel
theorem plain_good : Good 8 plainW := by decide +kernel
def pairW (p q : Nat) : List (List Nat) := [[p], [q], [p, q], [q, p], [p, p], [p, p, q], [p, q, p], [q, q]]
theorem pair_good : ∀ t, t < 26 → Good 8 (pairW (97 + t) (97 + (t + 7) % 26)) := by decide +kernel
theorem growW : ∀ t, t < 26 → Good 6 ((List.range 6).map fun k => ((97 + t) :: [113, 120, 122, 106, 107]).take (k + 1)) := by decide +kernel
end Dw

/-! LWm: rules that the def of the names wants. -/
namespace Dw
open PySem PySem.Spec PyProof.Rows L2
section
variable {M : Md} {O : List Addr} {r : List Sl} {q : D → Prop} {te : TE} {E : Kn} {ts tz : TS}
theorem ds_asgG {g : TG} {js : List Nat} (h : De M te O r fun d => DG M g js O r d fun r' => E.nx O r') : DS M (tAsg te g) O r E := fun σ H Z R z =>
  h σ H _ R fun v H1 d R1 e1 p1 q => q v σ H1 _ R1 p1 fun σ' r' R' _ q' => z.nx O r' σ' H1 R' (R1.stp e1) q'
theorem ds_par {ta : TA} {i j : Nat} (h : DA M ta O r fun ds => ∃ d e, ds = [d, e] ∧ E.nx O ((r.set i (.d d)).set j (.d e))) : DS M (tPar i j ta) O r E := fun σ H Z R z =>
  h σ H _ R fun vs H1 ds R1 e1 p1 q => by
    obtain ⟨d, e, rfl, q⟩ := q
    obtain ⟨v, t, rfl, p2, u, t2, rfl, p3, p4⟩ := p1
    obtain rfl : t2 = [] := p4
    exact ⟨v, u, rfl, z.nx O _ _ H1 ((R1.set (s := .d d) ⟨v, rfl, p2⟩ (fun p xs e => nomatch e)).set (s := .d e) ⟨u, rfl, p3⟩ (fun p xs e => nomatch e)) (R1.stp e1) q⟩
/-- what holds between two statements -/
theorem ds_mid (Q : List Addr → List Sl → Prop) (h1 : DS M ts O r { E with nx := Q }) (h2 : ∀ O r, Q O r → DS M tz O r E) : DS M (tSeq ts tz) O r E := ds_seq (h1.imp h2 (fun _ h => h) (fun _ _ h => h) fun _ _ h => h)
/-- an own list becomes data behind a block -/
theorem ds_after (i : Nat) (h : DS M ts O r { E with nx := fun O' r' => ∃ p xs, r'[i]? = some (.mu p xs) ∧ E.nx (O'.erase p) (r'.set i (.d (.lst xs))) }) : DS M ts O r E := fun σ H Z R z =>
  h σ H Z R ⟨fun O1 r1 σ1 H1 R1 a ⟨p, xs, e, q⟩ => z.nx (O1.erase p) _ σ1 H1 (R1.freeze e) ⟨a.1, fun x hx => a.2.1 x (List.mem_of_mem_erase hx), a.2.2⟩ q, z.rt, z.bk, z.ct⟩
/-- letters[(turn + 7 * k) % 26] -/
theorem de_let7 {a t s : Nat} {turn : Int} {j : Nat} (ha : r[a]? = some (.d (.str (tx alpha)))) (ht : r[t]? = some (.d (.int turn))) (hs : r[s]? = some (.d (.int (0 + (j : Int))))) (hj : j < 1000) (h : q (.str (tx [lt turn j]))) :
    De M (tOp rIxS (tVar a) (tOp (rI (fun x j => 0 < j) fun i j => V.int (i % j)) (tOp (rI0 fun i j => V.int (i + j)) (tVar t) (tOp (rI CMul fun i j => V.int (i * j)) (tC (V.int 7)) (tVar s))) (tC (V.int 26)))) O r q := by
  refine de_ixS (de_var ha (de_intC (C := fun x j => 0 < j) (g := fun i j => i % j) (de_intI (de_var ht (de_intC (C := CMul) (g := fun i j => i * j) (de_int (de_var hs ⟨_, _, rfl, rfl, .inl ⟨by omega, by omega⟩, _, _, rfl, rfl, de_int ⟨_, _, rfl, rfl, by decide, alpha, _, 97 + ((turn + 7 * (0 + (j : Int))) % 26).toNat, rfl, rfl, by decide, alpha_at (by omega) (by omega), ?_⟩⟩)))))))
  have e : 97 + ((turn + 7 * (0 + (j : Int))) % 26).toNat = lt turn j := by
    unfold lt
    rw [Int.zero_add]
  rw [e]
  exact h
theorem cutD_to {xs : List D} {b : Int} (h : 0 ≤ b) : cutD xs none (some b) = xs.take b.toNat := by
  unfold cutD
  rw [sIx_at _ _ h]
  show (xs.drop 0).take (min b.toNat xs.length - 0) = _
  rw [List.drop_zero, Nat.sub_zero]
  by_cases e : b.toNat ≤ xs.length
  · rw [Nat.min_eq_left e]
  · rw [Nat.min_eq_right (by omega), List.take_of_length_le (Nat.le_refl _), List.take_of_length_le (by omega)]
theorem cutD_at {xs : List D} {a b : Int} (ha : 0 ≤ a) (hab : a ≤ b) (hb : b ≤ xs.length) : cutD xs (some a) (some b) = (xs.drop a.toNat).take (b - a).toNat := by
  unfold cutD
  rw [sIx_at _ _ ha, sIx_at _ _ (Int.le_trans ha hab), Nat.min_eq_left (by omega), Nat.min_eq_left (by omega)]
  congr 1
  omega
theorem namesD_take (ws : List (List Nat)) (n : Nat) : (namesD ws).take n = namesD (ws.take n) := by
  unfold namesD
  rw [List.map_take]
theorem namesD_drop (ws : List (List Nat)) (n : Nat) : (namesD ws).drop n = namesD (ws.drop n) := by
  unfold namesD
  rw [List.map_drop]
theorem strs_names (ws : List (List Nat)) : (ws.map tx).map D.str = namesD ws := by
  unfold namesD
  rw [List.map_map]
  rfl
/-- drawn into another order: names still -/
theorem names_perm {ws : List (List Nat)} {ys : List D} (p : ys.Perm (namesD ws)) : ∃ us, ys = namesD us ∧ us.Perm ws := by
  let back : D → List Nat := fun y => match y with
    | .str s => s.cps.toList
    | _ => []
  have e1 : (namesD ws).map back = ws := by
    unfold namesD
    rw [List.map_map]
    show ws.map (fun l => l) = ws
    exact List.map_id _
  refine ⟨ys.map back, ?_, by rw [← e1]; exact (p.map back).trans (by rw [e1])⟩
  unfold namesD
  rw [List.map_map]
  refine (List.map_id ys).symm.trans (List.map_congr_left fun y hy => ?_)
  have hy2 := p.mem_iff.mp hy
  unfold namesD at hy2
  obtain ⟨l, _, rfl⟩ := List.mem_map.mp hy2
  rfl
end
theorem name_core {core : List Nat} {a L : Nat} {e z : List Nat} (lc : Low core) (hc : core.length < 4) (ha : a ≤ core.length) (hL : 97 ≤ L ∧ L ≤ 122) (he : (core = [] ∧ e = []) ∨ ∃ c ∈ [113, 120, 122, 106], e = [c]) (hz : z = [] ∨ z = [122]) :
    Name (((core.take a ++ (L :: e)) ++ core.drop a) ++ z) ∧ (((core.take a ++ (L :: e)) ++ core.drop a) ++ z)[a]? = some L := by
  have lz : Low z ∧ z.length ≤ 1 := by
    rcases hz with rfl | rfl
    · exact ⟨fun c h => (nomatch h), Nat.zero_le _⟩
    · exact ⟨Low.one ⟨by decide, by decide⟩, Nat.le_refl _⟩
  have le : Low e ∧ e.length ≤ 1 := by
    rcases he with ⟨_, rfl⟩ | ⟨c, hc, rfl⟩
    · exact ⟨fun c h => (nomatch h), Nat.zero_le _⟩
    · refine ⟨Low.one ?_, Nat.le_refl _⟩
      simp only [List.mem_cons, List.not_mem_nil, or_false] at hc
      omega
  have lt1 : (core.take a).length = a := by rw [List.length_take]; omega
  have l1 : (((core.take a ++ (L :: e)) ++ core.drop a) ++ z).length = core.length + e.length + z.length + 1 := by
    rw [List.length_append, List.length_append, List.length_append, List.length_drop, lt1, List.length_cons]
    omega
  refine ⟨⟨((Low.app (lc.take a) (Low.app (Low.one hL) le.1)).app (lc.drop a)).app lz.1, by omega, by omega, fun hr => ?_⟩, ?_⟩
  · have no := rsv_no _ hr
    rcases he with ⟨rfl, rfl⟩ | ⟨c, hc, rfl⟩
    · rcases hz with rfl | rfl
      · have := no.2.2.2.2
        rw [l1] at this
        simp at this
      · exact no.2.2.1 (by simp)
    · have hm : c ∈ ((core.take a ++ (L :: [c])) ++ core.drop a) ++ z := by simp
      simp only [List.mem_cons, List.not_mem_nil, or_false] at hc
      rcases hc with rfl | rfl | rfl | rfl
      · exact no.1 hm
      · exact no.2.1 hm
      · exact no.2.2.1 hm
      · exact no.2.2.2.1 hm
  · rw [List.append_assoc, List.append_assoc, List.getElem?_append_right (by omega), lt1, Nat.sub_self]
    rfl
theorem atI_nat {α : Type} {xs : List α} {k : Nat} {x : α} (h : xs[k]? = some x) : atI xs (0 + (k : Int)) = some x := by
  have hk : k < xs.length := (List.getElem?_eq_some_iff.mp h).1
  unfold atI ixN
  rw [Int.zero_add, if_pos (by omega), if_pos (by omega)]
  show xs[(k : Int).toNat]? = _
  rw [Int.toNat_natCast]
  exact h
theorem name_five {core : List Nat} {L : Nat} (lc : Low core) (hc : core.length < 4) (hL : 97 ≤ L ∧ L ≤ 122) : Name ((core ++ [113, 106, 120, 113, 106]).take 5 ++ [L]) ∧ ((core ++ [113, 106, 120, 113, 106]).take 5 ++ [L])[5]? = some L := by
  have l5 : ((core ++ [113, 106, 120, 113, 106]).take 5).length = 5 := by
    rw [List.length_take, List.length_append]
    show min 5 (core.length + 5) = 5
    omega
  have l6 : ((core ++ [113, 106, 120, 113, 106]).take 5 ++ [L]).length = 6 := by rw [List.length_append, l5]; rfl
  have lq : Low [113, 106, 120, 113, 106] := by decide
  refine ⟨⟨(Low.take 5 (lc.app lq)).app (Low.one hL), by omega, by omega, fun hr => (rsv_no _ hr).1 (List.mem_append_left _ ?_)⟩, ?_⟩
  · have e : (core ++ [113, 106, 120, 113, 106])[core.length]? = some 113 := by
      rw [List.getElem?_append_right (Nat.le_refl _), Nat.sub_self]
      rfl
    refine List.mem_of_getElem? (i := core.length) ?_
    rw [List.getElem?_take, if_pos (by omega)]
    exact e
  · rw [List.getElem?_append_right (by omega), l5]
    rfl
theorem name_grow {t k : Nat} (ht : t < 26) (hk : k < 6) : Name (((97 + t) :: [113, 120, 122, 106, 107]).take (k + 1)) ∧ (((97 + t) :: [113, 120, 122, 106, 107]).take (k + 1)).length = k + 1 :=
  ⟨(growW t ht).2.2 _ (List.mem_map.mpr ⟨k, List.mem_range.mpr hk, rfl⟩), by rw [List.length_take]; show min (k + 1) 6 = k + 1; omega⟩
theorem desk_cut {f m : Int} (f0 : 0 ≤ f) (f1 : f < 14) (m0 : 0 ≤ m) (m8 : m ≤ 8) : ∃ ws, cutD (List.replicate (Int.toNat 2) (namesD deskW)).flatten (some f) (some (f + m)) = namesD ws ∧ Good m.toNat ws := by
  have e : (List.replicate (Int.toNat 2) (namesD deskW)).flatten = namesD (deskW ++ deskW) := by
    show (List.replicate 2 (namesD deskW)).flatten = _
    unfold namesD
    rw [List.map_append]
    simp [List.replicate]
  refine ⟨((deskW ++ deskW).drop f.toNat).take m.toNat, ?_, desk_good f.toNat (by omega) m.toNat (by omega)⟩
  rw [e, cutD_at f0 (by omega) (by rw [namesD_len]; show f + m ≤ ((28 : Nat) : Int); omega), namesD_drop, namesD_take]
  congr 2
  omega
end Dw

/-! LWc: distinct names. -/
namespace Dw
open PySem PySem.Spec PyProof.Rows L2
abbrev nWor : List Str := ["_law_deal_here", "_law_many", "_law_letters", "_law_form", "_law_core", "_law_at", "_law_turn", "_law_own", "_law_found", "_law_words_here", "_law_first", "_law_p", "_law_q", "_law_k"]
theorem scWor : FnScope nWor ["_law_deal_here", "_law_many"] (defScope sWor) := ⟨rfl, rfl, rfl, by decide +kernel, rfl, by decide +kernel, by decide +kernel⟩
local macro_rules | `(tactic| walk_at "dw") => `(tactic| first
  | refine de_var rfl ?_ | refine de_int ?_ | refine de_str ?_ | refine de_bl ?_ | refine de_non ?_
  | refine de_intI ?_ | refine de_intB ?_ | refine de_intC ?_ | refine de_eq ?_ | refine de_ne ?_
  | refine da_nil ?_ | refine da_cons ?_ | refine de_max2 ?_ | refine do_none ?_ | refine do_some ?_ | refine dt_test ?_ | refine dt_B ?_ | refine dt_yes ?_
  | refine ⟨_, _, rfl, rfl, ?_⟩ | refine ⟨_, rfl, ?_⟩)
theorem nil_is : (("" : String) : Str) = tx [] := by decide +kernel
def preWor (g : Addr × Addr) (ds : List D) : Prop := ∃ m : Int, ds = [.ref g.1, .int m] ∧ 0 ≤ m ∧ m ≤ 8
def postWor (_ : Addr × Addr) (ds : List D) (d : D) : Prop := ∃ (m : Int) (ws : List (List Nat)), ds[1]? = some (.int m) ∧ d = .lst (namesD ws) ∧ Good m.toNat ws
def WorI (g : Addr × Addr) (many form at_ turn : Int) (core : List Nat) (O : List Addr) (r : List Sl) : Prop :=
  O = [] ∧ ∃ (ws : List (List Nat)) (s7 s9 s10 s11 s12 s13 : Sl), Good many.toNat ws ∧ r = [.d (.ref g.1), .d (.int many), .d (.str (tx alpha)), .d (.int form), .d (.str (tx core)), .d (.int at_), .d (.int turn), s7, .d (.lst (namesD ws)), s9, s10, s11, s12, s13]
section
variable {P : Program} {w : World} {K : PySem.W.Frag} {mg : Str → Option Value} {base : Heap}
set_option maxHeartbeats 4000000 in
theorem ok_wor {f fD fM fA : Addr} {fd fdD fdM fdA : FuncData} {k : Nat} (F : Fun K "_law_words" "_law_words" sWor f fd) (FD : FnOk P w K mg base CX0 k fD fdD ["_law_deal_here", "_law_many"] (spDraw K)) (gD : mg "_law_draw" = some (.ref fD)) (kD : PySem.W.keepIn K (.ref fD) = true) (bD : Binds K fdD ["_law_deal_here", "_law_many"] [])
    (FM : FnOk P w K mg base CX0 k fM fdM ["_law_deal_here", "_law_items"] (SpD K dealS preMix postMix)) (gM : mg "_law_mixed" = some (.ref fM)) (kM : PySem.W.keepIn K (.ref fM) = true) (bM : Binds K fdM ["_law_deal_here", "_law_items"] [])
    (FA : FnOk P w K mg base CX0 k fA fdA ["_law_deal_here", "_law_last"] (SpD K dealS preAny postAny)) (gA : mg "_law_any_word" = some (.ref fA)) (kA : PySem.W.keepIn K (.ref fA) = true) (bA : Binds K fdA ["_law_deal_here", "_law_last"] [])
    (mR : mg "range" = none) (mN : mg "len" = none) (mI : mg "int" = none) : FnOk P w K mg base CX0 (k + 1) f fd ["_law_deal_here", "_law_many"] (SpD K dealS preWor postWor) := by
  refine fn_dw (S := dealS) F scWor (fun g ds ⟨m, e, _⟩ => by rw [e]; rfl) fun cdv A outer s H E g ds F1 f0 tr hr pre => ?_
  have h0 : (mdOf K dealS g H F1 f0 tr).F0 = dealS.F0 g := rfl
  have hI : (mdOf K dealS g H F1 f0 tr).I = dealS.I g := rfl
  refine ⟨_, (pss_cons (ps_asg (pe_tup (pa_cons pe_str (pa_cons (pe_call FD hr (by rfl) gD kD bD .nil pass0 (pa_cons (pv 0) (pa_cons pe_int pa_nil))) pa_nil))) (pg_tup rfl (pgs_cons (pg_name (i := 2) scWor.nd rfl (Or.inr rfl)) (pgs_cons (pg_name (i := 3) scWor.nd rfl (Or.inl rfl)) pgs_nil)))) (pss_cons (ps_set (i := 4) scWor.nd rfl (Or.inr rfl) (pe_join pe_str (pe_lc (own := [("_law_k", 13)]) (g := gName 13) (tt := tYes) (by rfl) scWor.nd (pi_range1 (by rfl) mR (pa_cons (pe_call FD hr (by rfl) gD kD bD .nil pass0 (pa_cons (pv 0) (pa_cons pe_int pa_nil))) pa_nil)) (blkOk_by (N := nWor) (sc := defScope sWor) (by decide +kernel)) (fun _ _ _ _ _ => (pg_name (i := 13) scWor.nd rfl (Or.inl rfl))) (fun _ _ _ _ _ => pts_nil) (fun _ _ _ _ _ => (pe_ix ix_str (pv 2) (pe_call FD hr (by rfl) gD kD bD .nil pass0 (pa_cons (pv 0) (pa_cons pe_int pa_nil))) (fun _ _ => rfl)))))) (pss_cons (ps_asg (pe_tup (pa_cons (pe_call FD hr (by rfl) gD kD bD .nil pass0 (pa_cons (pv 0) (pa_cons (pe_op op_add (pe_callB call_len_str (by rfl) mN PySem.boot_len (pa_cons (pv 4) pa_nil)) pe_int) pa_nil))) (pa_cons (pe_call FD hr (by rfl) gD kD bD .nil pass0 (pa_cons (pv 0) (pa_cons pe_int pa_nil))) pa_nil))) (pg_tup rfl (pgs_cons (pg_name (i := 5) scWor.nd rfl (Or.inr rfl)) (pgs_cons (pg_name (i := 6) scWor.nd rfl (Or.inr rfl)) pgs_nil)))) (pss_cons (ps_set (i := 7) scWor.nd rfl (Or.inr rfl) (pe_lc (own := [("_law_k", 13)]) (g := gName 13) (tt := tYes) (by rfl) scWor.nd (pi_range1 (by rfl) mR (pa_cons (pv 1) pa_nil)) (blkOk_by (N := nWor) (sc := defScope sWor) (by decide +kernel)) (fun _ _ _ _ _ => (pg_name (i := 13) scWor.nd rfl (Or.inl rfl))) (fun _ _ _ _ _ => pts_nil) (fun _ _ _ _ _ => (pe_op op_add_str (pe_ix ix_str (pv 2) (pe_op op_mod (pe_op op_add (pv 6) (pe_op op_mul pe_int (pv 13))) pe_int) (fun _ _ => rfl)) (pe_ix (show IxR _ (rIxL K) from ix_list) (pe_lst (pa_cons (pe_ix ix_str pe_str (pe_call FD hr (by rfl) gD kD bD .nil pass0 (pa_cons (pv 0) (pa_cons pe_int pa_nil))) (fun _ _ => rfl)) (pa_cons pe_str pa_nil))) (pe_callTy call_int1 (by rfl) mI (by decide +kernel) (pa_cons (pe_cmpR op_eq (pv 4) pe_str (nomark _)) pa_nil)) (fun _ _ => rfl)))))) (pss_cons (ps_setLc (i := 8) (own := [("_law_k", 13)]) (g := gName 13) (tt := tYes) rfl scWor.nd rfl rfl (sw_true rfl rfl rfl (by decide +kernel)) (pi_range1 (by rfl) mR (pa_cons (pv 1) pa_nil)) (blkOk_by (N := nWor) (sc := defScope sWor) (by decide +kernel)) (fun _ _ _ _ _ => (pg_name (i := 13) scWor.nd rfl (Or.inl rfl))) (fun _ _ _ _ _ => pts_nil) (fun _ _ _ _ _ => (pe_op op_add_str (pe_op op_add_str (pe_op op_add_str (pe_slice sl_str (pv 4) po_none (po_some (pv 5))) (pe_ix (show IxR _ (rIxL K) from ix_list) (pv 7) (pv 13) (fun _ _ => rfl))) (pe_slice sl_str (pv 4) (po_some (pv 5)) po_none)) (pe_op op_mulS pe_str (pe_op op_mod (pv 13) pe_int))))) (pss_cons (ps_if (pt_cmpR op_eq (pv 3) pe_int (nomark _)) (pss_cons (ps_set (i := 9) scWor.nd rfl (Or.inl rfl) (pe_split pe_str pe_str)) (pss_cons (ps_set (i := 10) scWor.nd rfl (Or.inl rfl) (pe_call FD hr (by rfl) gD kD bD .nil pass0 (pa_cons (pv 0) (pa_cons pe_int pa_nil)))) (pss_one (ps_set (i := 8) scWor.nd rfl (Or.inl rfl) (pe_slice sl_list (pe_op op_rep (pv 9) pe_int) (po_some (pv 10)) (po_some (pe_op op_add (pv 10) (pv 1)))))))) pss_nil) (pss_cons (ps_if (PW.pt (pw_and (pt_cmpR op_eq (pv 3) pe_int (nomark _)) (pw_and1 (pt_cmpR op_lt (pv 1) pe_int (nomark _))))) (pss_one (ps_setLc (i := 8) (own := [("_law_k", 13)]) (g := gName 13) (tt := tYes) rfl scWor.nd rfl rfl (sw_true rfl rfl rfl (by decide +kernel)) (pi_range1 (by rfl) mR (pa_cons (pv 1) pa_nil)) (blkOk_by (N := nWor) (sc := defScope sWor) (by decide +kernel)) (fun _ _ _ _ _ => (pg_name (i := 13) scWor.nd rfl (Or.inl rfl))) (fun _ _ _ _ _ => pts_nil) (fun _ _ _ _ _ => (pe_slice sl_str (pe_op op_add_str (pe_ix ix_str (pv 2) (pv 6) (fun _ _ => rfl)) pe_str) po_none (po_some (pe_op op_add (pv 13) pe_int)))))) pss_nil) (pss_cons (ps_if (pt_cmpR op_eq (pv 3) pe_int (nomark _)) (pss_one (ps_setLc (i := 8) (own := [("_law_k", 13)]) (g := gName 13) (tt := tYes) rfl scWor.nd rfl rfl (sw_true rfl rfl rfl (by decide +kernel)) (pi_range1 (by rfl) mR (pa_cons (pv 1) pa_nil)) (blkOk_by (N := nWor) (sc := defScope sWor) (by decide +kernel)) (fun _ _ _ _ _ => (pg_name (i := 13) scWor.nd rfl (Or.inl rfl))) (fun _ _ _ _ _ => pts_nil) (fun _ _ _ _ _ => (pe_op op_add_str (pe_slice sl_str (pe_op op_add_str (pv 4) pe_str) po_none (po_some pe_int)) (pe_ix ix_str (pv 2) (pe_op op_mod (pe_op op_add (pv 6) (pe_op op_mul pe_int (pv 13))) pe_int) (fun _ _ => rfl)))))) pss_nil) (pss_cons (ps_if (pt_cmpR op_eq (pv 3) pe_int (nomark _)) (pss_one (ps_setLc (i := 8) (own := [("_law_k", 13)]) (g := gName 13) (tt := tYes) rfl scWor.nd rfl rfl (sw_true rfl rfl rfl (by decide +kernel)) (pi_range1 (by rfl) mR (pa_cons (pv 1) pa_nil)) (blkOk_by (N := nWor) (sc := defScope sWor) (by decide +kernel)) (fun _ _ _ _ _ => (pg_name (i := 13) scWor.nd rfl (Or.inl rfl))) (fun _ _ _ _ _ => pts_nil) (fun _ _ _ _ _ => (pe_call FA hr (by rfl) gA kA bA .nil pass0 (pa_cons (pv 0) (pa_cons (pe_ix ix_str (pv 2) (pe_op op_mod (pe_op op_add (pv 6) (pe_op op_mul pe_int (pv 13))) pe_int) (fun _ _ => rfl)) pa_nil)))))) pss_nil) (pss_cons (ps_if (pt_cmpR op_eq (pv 3) pe_int (nomark _)) (pss_one (ps_set (i := 8) scWor.nd rfl (Or.inl rfl) (pe_slice sl_list (pe_split pe_str pe_str) po_none (po_some (pv 1))))) pss_nil) (pss_cons (ps_if (pt_cmpR op_eq (pv 3) pe_int (nomark _)) (pss_cons (ps_par (i := 11) (j := 12) rfl scWor.nd rfl rfl (by decide) rfl rfl (pa_cons (pe_ix ix_str (pv 2) (pv 6) (fun _ _ => rfl)) (pa_cons (pe_ix ix_str (pv 2) (pe_op op_mod (pe_op op_add (pv 6) pe_int) pe_int) (fun _ _ => rfl)) pa_nil)) (by rfl)) (pss_one (ps_set (i := 8) scWor.nd rfl (Or.inl rfl) (pe_slice sl_list (pe_lst (pa_cons (pv 11) (pa_cons (pv 12) (pa_cons (pe_op op_add_str (pv 11) (pv 12)) (pa_cons (pe_op op_add_str (pv 12) (pv 11)) (pa_cons (pe_op op_add_str (pv 11) (pv 11)) (pa_cons (pe_op op_add_str (pe_op op_add_str (pv 11) (pv 11)) (pv 12)) (pa_cons (pe_op op_add_str (pe_op op_add_str (pv 11) (pv 12)) (pv 11)) (pa_cons (pe_op op_add_str (pv 12) (pv 12)) pa_nil))))))))) po_none (po_some (pv 1)))))) pss_nil) (pss_one (ps_ret (pe_call FM hr (by rfl) gM kM bM .nil pass0 (pa_cons (pv 0) (pa_cons (pv 8) pa_nil)))))))))))))))), ?_⟩
  obtain ⟨many, rfl, m0, m8⟩ := pre
  refine ds_seq (ds_asgG (js := [2, 3]) (de_tup (da_cons (de_str (da_cons (de_draw (i := 0) h0 hI rfl (by decide) (by decide) fun form fo0 fo1 => da_nil ⟨by show 2 ≤ sizeLine; decide, ?_⟩))))))
  refine dg_tup rfl (dgs_cons (dg_name (dgs_cons (dg_name (dgs_nil ?_)))))
  rw [alpha_is]
  refine ds_seq (ds_asg (de_letters (i := 0) (a := 2) (s := 13) h0 hI (by decide) (by decide) rfl (fun _ => rfl) (fun _ => rfl) fun core hc lc => ?_))
  have c1000 : core.length ≤ 1000 := by omega
  have cline : core.length ≤ sizeLine := Nat.le_trans c1000 (by decide)
  refine ds_seq (ds_asgG (js := [5, 6]) (de_tup (da_cons (de_call g h0 hI (da_cons (de_var rfl (da_cons (de_intI (de_lenS (de_var rfl ⟨tx core, rfl, by rw [tx_len]; exact cline, de_int ⟨_, _, rfl, rfl, da_nil ?_⟩⟩))))))))))
  rw [tx_len]
  refine ⟨⟨_, rfl, by omega, by omega⟩, fun d ⟨n, at_, e, ed, a0, a1⟩ => ?_⟩
  cases e
  subst ed
  refine da_cons (de_draw (i := 0) h0 hI rfl (by decide) (by decide) fun turn t0 t1 => da_nil ⟨by show 2 ≤ sizeLine; decide, ?_⟩)
  refine dg_tup rfl (dgs_cons (dg_name (dgs_cons (dg_name (dgs_nil ?_)))))
  -- own
  refine ds_seq (ds_asg (de_lcP (js := [13]) (fun k _ y => ∃ e : List Nat, y = .str (tx (lt turn k :: e)) ∧ ((core = [] ∧ e = []) ∨ ∃ c ∈ [113, 120, 122, 106], e = [c])) (fun j h => h) (di_range1 (da_cons (de_var rfl (da_nil ⟨many, rfl, ⟨by omega, by omega⟩, ?_⟩))))))
  refine ⟨by rw [rangeD_len]; exact Nat.lt_of_lt_of_le (by omega : many.toNat < 1000) (by decide), fun O' k x hx => ?_, fun own hol hown => ?_⟩
  · obtain ⟨hk, rfl⟩ := rangeD_get hx
    refine dg_name (de_addS (de_let7 (a := 2) (t := 6) (s := 13) rfl rfl rfl (by omega) ?_))
    refine de_ixL (de_lst (da_cons (de_ixS (de_str (de_draw (i := 0) h0 hI rfl (by decide) (by decide) fun v v0 v1 => ?_)))))
    have pick : ∃ c ∈ [113, 120, 122, 106], atI [113, 120, 122, 106] v = some c := by
      have z : v = 0 ∨ v = 1 ∨ v = 2 ∨ v = 3 := by omega
      rcases z with rfl | rfl | rfl | rfl <;> exact ⟨_, by decide, rfl⟩
    obtain ⟨c, hcm, hc2⟩ := pick
    refine ⟨[113, 120, 122, 106], v, c, congrArg D.str (by decide +kernel), rfl, by decide, hc2, ?_⟩
    refine da_cons (de_str (da_nil ⟨by show 2 ≤ sizeLine; decide, de_int1 (de_eq (de_var rfl (de_str ⟨_, _, rfl, rfl, rfl, _, rfl, ?_⟩)))⟩))
    rw [nil_is]
    by_cases hcore : core = []
    · have e1 : decide (V.str (tx core) = V.str (tx [])) = true := decide_eq_true (by rw [hcore])
      rw [e1]
      exact ⟨_, 1, .str (tx []), rfl, rfl, rfl, [lt turn k], [], rfl, rfl, by show 1 ≤ sizeLine; decide, [], rfl, .inl ⟨hcore, rfl⟩⟩
    · have e1 : decide (V.str (tx core) = V.str (tx [])) = false := decide_eq_false fun z => hcore (tx_inj (V.str.inj z))
      rw [e1]
      exact ⟨_, 0, .str (tx [c]), rfl, rfl, rfl, [lt turn k], [c], rfl, rfl, by show 2 ≤ sizeLine; decide, [c], rfl, .inr ⟨c, hcm, rfl⟩⟩
  rw [rangeD_len] at hol
  have own_at : ∀ k : Nat, k < many.toNat → ∃ e : List Nat, own[k]? = some (.str (tx (lt turn k :: e))) ∧ ((core = [] ∧ e = []) ∨ ∃ c ∈ [113, 120, 122, 106], e = [c]) := fun k hk => by
    have h1 : own[k]? = some own[k] := List.getElem?_eq_getElem (by omega)
    obtain ⟨x, hx⟩ : ∃ x, (rangeD 0 many.toNat)[k]? = some x := ⟨_, List.getElem?_eq_getElem (by rw [rangeD_len]; exact hk)⟩
    obtain ⟨e, he, hc⟩ := hown k x _ hx h1
    exact ⟨e, by rw [h1, he], hc⟩
  -- found
  refine ds_mid (WorI g many form at_ turn core) (ds_asg (de_lcP (js := [13]) (fun k _ y => ∃ w : List Nat, y = .str (tx w) ∧ Name w ∧ w[at_.toNat]? = some (lt turn k)) (fun j h => h) (di_range1 (da_cons (de_var rfl (da_nil ⟨many, rfl, ⟨by omega, by omega⟩, ?_⟩)))))) fun O1 r1 hv => ?_
  · refine ⟨by rw [rangeD_len]; exact Nat.lt_of_lt_of_le (by omega : many.toNat < 1000) (by decide), fun O' k x hx => ?_, fun ys hys hyc => ?_⟩
    · obtain ⟨hk, rfl⟩ := rangeD_get hx
      obtain ⟨e, oe, he⟩ := own_at k hk
      have b1 : ∀ n : Nat, n ≤ 1000 → n ≤ sizeLine := fun n h => Nat.le_trans h (by decide)
      have e1 : e.length ≤ 1 := by
        rcases he with ⟨_, rfl⟩ | ⟨c, _, rfl⟩
        · exact Nat.zero_le _
        · exact Nat.le_refl _
      refine dg_name (de_addS (de_addS (de_addS (de_slS (de_var rfl ⟨core, rfl, cline, do_none (do_some (de_var rfl ⟨at_, rfl, ?_⟩))⟩)))))
      rw [cutN_to a0]
      refine de_ixL (de_var rfl (de_var rfl ⟨own, _, _, rfl, rfl, atI_nat oe, _, _, rfl, rfl, ?_, ?_⟩))
      · refine b1 _ ?_
        rw [List.length_take, List.length_cons]
        omega
      refine de_slS (de_var rfl ⟨core, rfl, cline, do_some (de_var rfl ⟨at_, rfl, do_none ⟨_, _, rfl, rfl, ?_, ?_⟩⟩)⟩)
      · refine b1 _ ?_
        rw [cutN_from a0, List.length_append, List.length_take, List.length_cons, List.length_drop]
        omega
      rw [cutN_from a0]
      refine de_mulS (de_str (de_intC (C := fun x j => 0 < j) (g := fun i j => i % j) (de_var rfl (de_int ⟨_, _, rfl, rfl, by decide, [122], decide (k % 2 = 1), congrArg D.str (by decide +kernel), ?_, _, _, rfl, rfl, ?_, ?_⟩))))
      · refine congrArg D.int ?_
        by_cases h : k % 2 = 1
        · rw [decide_eq_true h, if_pos rfl]
          omega
        · rw [decide_eq_false h, if_neg Bool.false_ne_true]
          omega
      · refine b1 _ ?_
        rw [List.length_append, List.length_append, List.length_take, List.length_cons, List.length_drop]
        have : (if decide (k % 2 = 1) = true then [122] else [] : List Nat).length ≤ 1 := by split <;> decide
        omega
      · obtain ⟨n1, n2⟩ := name_core (a := at_.toNat) (e := e) (z := if decide (k % 2 = 1) = true then [122] else []) lc (by omega) (by omega) (lt_ok turn k) he (by
          split
          · exact .inr rfl
          · exact .inl rfl)
        exact ⟨_, rfl, n1, n2⟩
    · rw [rangeD_len] at hys
      obtain ⟨ws, rfl, hg⟩ := good_by (fun w => w[at_.toNat]?) (fun k => some (lt turn k)) hys (fun i y hi hy => by
        obtain ⟨x, hx⟩ : ∃ x, (rangeD 0 many.toNat)[i]? = some x := ⟨_, List.getElem?_eq_getElem (by rw [rangeD_len]; exact hi)⟩
        exact hyc i x y hx hy) fun i j hi hj e => lt_inj (by omega) (by omega) (Option.some.inj e)
      exact ⟨rfl, ws, _, _, _, _, _, _, hg, rfl⟩
  obtain ⟨rfl, ws, s7, s9, s10, s11, s12, s13, hg, rfl⟩ := hv
  -- form 0
  refine ds_mid (WorI g many form at_ turn core) (ds_ifN (dt_test (de_eq (de_var rfl (de_int ⟨_, _, rfl, rfl, rfl, _, rfl, fun _ => ?_⟩)))) ⟨rfl, ws, _, _, _, _, _, _, hg, rfl⟩) fun O1 r1 hv => ?_
  · refine ds_after 9 (ds_seq (ds_ownSplit (i := 9) (by decide +kernel) (by decide +kernel) (by decide +kernel) fun p hp => ?_))
    rw [desk_is, strs_names]
    refine ds_seq (ds_asg (de_draw (i := 0) h0 hI rfl (by decide) (by decide) fun first fi0 fi1 => ?_))
    refine ds_asg (de_slL (de_repO 9 rfl (de_int ⟨2, rfl, by decide, by decide, by rw [namesD_len]; decide, _, rfl, do_some (de_var rfl ⟨first, rfl, do_some (de_intI (de_var rfl (de_var rfl ⟨_, _, rfl, rfl, _, rfl, ?_⟩)))⟩)⟩)))
    obtain ⟨us, eu, gu⟩ := desk_cut fi0 fi1 m0 m8
    rw [eu]
    exact ⟨p, namesD deskW, rfl, by simp, us, _, _, _, _, _, _, gu, rfl⟩
  obtain ⟨rfl, ws, s7, s9, s10, s11, s12, s13, hg, rfl⟩ := hv
  -- form 1
  refine ds_mid (WorI g many form at_ turn core) (ds_ifN (dt_andN (dt_test (de_eq (de_var rfl (de_int ⟨_, _, rfl, rfl, rfl, _, rfl, fun _ => dt_test (de_intB (de_var rfl (de_int ⟨_, _, rfl, rfl, _, rfl, fun h7 => ?_⟩)))⟩))))) ⟨rfl, ws, _, _, _, _, _, _, hg, rfl⟩) fun O1 r1 hv => ?_
  · have m7 : many < 7 := of_decide_eq_true h7
    refine ds_asg (de_lcP (js := [13]) (fun k _ y => ∃ w : List Nat, y = .str (tx w) ∧ Name w ∧ w.length = k + 1) (fun j h => h) (di_range1 (da_cons (de_var rfl (da_nil ⟨many, rfl, ⟨by omega, by omega⟩, ?_⟩)))))
    refine ⟨by rw [rangeD_len]; exact Nat.lt_of_lt_of_le (by omega : many.toNat < 1000) (by decide), fun O' k x hx => ?_, fun ys hys hyc => ?_⟩
    · obtain ⟨hk, rfl⟩ := rangeD_get hx
      refine dg_name (de_slS (de_addS (de_ixS (de_var rfl (de_var rfl ⟨alpha, turn, _, rfl, rfl, by decide, alpha_at t0 t1, de_str ⟨_, [113, 120, 122, 106, 107], rfl, congrArg D.str (by decide +kernel), by show 6 ≤ sizeLine; decide, _, rfl, by show 6 ≤ sizeLine; decide, do_none (do_some (de_intI (de_var rfl (de_int ⟨_, _, rfl, rfl, _, rfl, ?_⟩))))⟩⟩)))))
      rw [cutN_to (by omega)]
      have e : (0 + (k : Int) + 1).toNat = k + 1 := by omega
      rw [e]
      obtain ⟨g1, g2⟩ := name_grow (t := turn.toNat) (k := k) (by omega) (by omega)
      exact ⟨_, rfl, g1, g2⟩
    · rw [rangeD_len] at hys
      obtain ⟨us, rfl, hg⟩ := good_by List.length (fun k => k + 1) hys (fun i y hi hy => by
        obtain ⟨x, hx⟩ : ∃ x, (rangeD 0 many.toNat)[i]? = some x := ⟨_, List.getElem?_eq_getElem (by rw [rangeD_len]; exact hi)⟩
        exact hyc i x y hx hy) fun i j hi hj e => by omega
      exact ⟨rfl, us, _, _, _, _, _, _, hg, rfl⟩
  obtain ⟨rfl, ws, s7, s9, s10, s11, s12, s13, hg, rfl⟩ := hv
  -- form 2
  refine ds_mid (WorI g many form at_ turn core) (ds_ifN (dt_test (de_eq (de_var rfl (de_int ⟨_, _, rfl, rfl, rfl, _, rfl, fun _ => ?_⟩)))) ⟨rfl, ws, _, _, _, _, _, _, hg, rfl⟩) fun O1 r1 hv => ?_
  · refine ds_asg (de_lcP (js := [13]) (fun k _ y => ∃ w : List Nat, y = .str (tx w) ∧ Name w ∧ w[5]? = some (lt turn k)) (fun j h => h) (di_range1 (da_cons (de_var rfl (da_nil ⟨many, rfl, ⟨by omega, by omega⟩, ?_⟩)))))
    refine ⟨by rw [rangeD_len]; exact Nat.lt_of_lt_of_le (by omega : many.toNat < 1000) (by decide), fun O' k x hx => ?_, fun ys hys hyc => ?_⟩
    · obtain ⟨hk, rfl⟩ := rangeD_get hx
      have lcq : (core ++ [113, 106, 120, 113, 106]).length ≤ sizeLine := by
        rw [List.length_append]
        exact Nat.le_trans (by show core.length + 5 ≤ 1000; omega) (by decide)
      refine dg_name (de_addS (de_slS (de_addS (de_var rfl (de_str ⟨core, [113, 106, 120, 113, 106], rfl, congrArg D.str (by decide +kernel), by rw [← List.length_append]; exact lcq, _, rfl, lcq, do_none (do_some (de_int ⟨5, rfl, ?_⟩))⟩)))))
      refine de_let7 (a := 2) (t := 6) (s := 13) rfl rfl rfl (by omega) ⟨_, _, rfl, rfl, ?_, ?_⟩
      · rw [cutN_to (by decide), List.length_take]
        exact Nat.le_trans (by show min 5 _ + 1 ≤ 1000; omega) (by decide)
      · rw [cutN_to (by decide)]
        obtain ⟨g1, g2⟩ := name_five (L := lt turn k) lc (by omega) (lt_ok turn k)
        exact ⟨_, rfl, g1, g2⟩
    · rw [rangeD_len] at hys
      obtain ⟨us, rfl, hg⟩ := good_by (fun w => w[5]?) (fun k => some (lt turn k)) hys (fun i y hi hy => by
        obtain ⟨x, hx⟩ : ∃ x, (rangeD 0 many.toNat)[i]? = some x := ⟨_, List.getElem?_eq_getElem (by rw [rangeD_len]; exact hi)⟩
        exact hyc i x y hx hy) fun i j hi hj e => lt_inj (by omega) (by omega) (Option.some.inj e)
      exact ⟨rfl, us, _, _, _, _, _, _, hg, rfl⟩
  obtain ⟨rfl, ws, s7, s9, s10, s11, s12, s13, hg, rfl⟩ := hv
  -- form 3
  refine ds_mid (WorI g many form at_ turn core) (ds_ifN (dt_test (de_eq (de_var rfl (de_int ⟨_, _, rfl, rfl, rfl, _, rfl, fun _ => ?_⟩)))) ⟨rfl, ws, _, _, _, _, _, _, hg, rfl⟩) fun O1 r1 hv => ?_
  · refine ds_asg (de_lcP (js := [13]) (fun k _ y => ∃ w : List Nat, y = .str (tx w) ∧ Name w ∧ w.getLast? = some (lt turn k)) (fun j h => h) (di_range1 (da_cons (de_var rfl (da_nil ⟨many, rfl, ⟨by omega, by omega⟩, ?_⟩)))))
    refine ⟨by rw [rangeD_len]; exact Nat.lt_of_lt_of_le (by omega : many.toNat < 1000) (by decide), fun O' k x hx => ?_, fun ys hys hyc => ?_⟩
    · obtain ⟨hk, rfl⟩ := rangeD_get hx
      refine dg_name (de_call g h0 hI (da_cons (de_var rfl (da_cons (de_let7 (a := 2) (t := 6) (s := 13) rfl rfl rfl (by omega) (da_nil ⟨⟨lt turn k, rfl, lt_ok turn k⟩, fun d hd => ?_⟩))))))
      obtain ⟨c, u, ec, rfl, lw, lu, nr⟩ := hd
      have e2 : lt turn k = c := by
        have := tx_inj (D.str.inj (Option.some.inj ec))
        exact List.head_eq_of_cons_eq this
      subst e2
      refine ⟨_, rfl, ⟨lw, ?_, ?_, nr⟩, by simp⟩
      · rw [List.length_append, List.length_singleton]
        omega
      · rw [List.length_append, List.length_singleton]
        omega
    · rw [rangeD_len] at hys
      obtain ⟨us, rfl, hg⟩ := good_by List.getLast? (fun k => some (lt turn k)) hys (fun i y hi hy => by
        obtain ⟨x, hx⟩ : ∃ x, (rangeD 0 many.toNat)[i]? = some x := ⟨_, List.getElem?_eq_getElem (by rw [rangeD_len]; exact hi)⟩
        exact hyc i x y hx hy) fun i j hi hj e => lt_inj (by omega) (by omega) (Option.some.inj e)
      exact ⟨rfl, us, _, _, _, _, _, _, hg, rfl⟩
  obtain ⟨rfl, ws, s7, s9, s10, s11, s12, s13, hg, rfl⟩ := hv
  -- form 4
  refine ds_mid (WorI g many form at_ turn core) (ds_ifN (dt_test (de_eq (de_var rfl (de_int ⟨_, _, rfl, rfl, rfl, _, rfl, fun _ => ?_⟩)))) ⟨rfl, ws, _, _, _, _, _, _, hg, rfl⟩) fun O1 r1 hv => ?_
  · refine ds_asg (de_slL (de_splitC (by decide +kernel) (by decide +kernel) ⟨_, rfl, do_none (do_some (de_var rfl ⟨many, rfl, ?_⟩))⟩))
    rw [plain_is, strs_names, cutD_to m0, namesD_take]
    exact ⟨rfl, _, _, _, _, _, _, _, plain_good.take (by omega), rfl⟩
  obtain ⟨rfl, ws, s7, s9, s10, s11, s12, s13, hg, rfl⟩ := hv
  -- form 5
  refine ds_mid (WorI g many form at_ turn core) (ds_ifN (dt_test (de_eq (de_var rfl (de_int ⟨_, _, rfl, rfl, rfl, _, rfl, fun _ => ?_⟩)))) ⟨rfl, ws, _, _, _, _, _, _, hg, rfl⟩) fun O1 r1 hv => ?_
  · refine ds_seq (ds_par (da_cons (de_ixS (de_var rfl (de_var rfl ⟨alpha, turn, _, rfl, rfl, by decide, alpha_at t0 t1, da_cons (de_ixS (de_var rfl (de_intC (C := fun x j => 0 < j) (g := fun i j => i % j) (de_intI (de_var rfl (de_int ⟨_, _, rfl, rfl, de_int ⟨_, _, rfl, rfl, by decide, alpha, _, _, rfl, rfl, by decide, alpha_at (by omega) (by omega), da_nil ⟨_, _, rfl, ?_⟩⟩⟩))))))⟩)))))
    have gp := pair_good turn.toNat (by omega)
    have e7 : ((turn + 7) % 26).toNat = (turn.toNat + 7) % 26 := by omega
    rw [e7]
    generalize 97 + turn.toNat = p at gp ⊢
    generalize 97 + (turn.toNat + 7) % 26 = q at gp ⊢
    have add2 : ∀ {a b : List Nat}, a.length ≤ 3 → b.length ≤ 3 → a.length + b.length ≤ sizeLine := fun ha hb => Nat.le_trans (by omega : _ ≤ 6) (by decide)
    refine ds_asg (de_slL (de_lst (da_cons (de_var rfl (da_cons (de_var rfl (da_cons (de_addS (de_var rfl (de_var rfl ⟨[p], [q], rfl, rfl, add2 (Nat.le_of_ble_eq_true rfl) (Nat.le_of_ble_eq_true rfl), ?_⟩))))))))))
    refine da_cons (de_addS (de_var rfl (de_var rfl ⟨[q], [p], rfl, rfl, add2 (Nat.le_of_ble_eq_true rfl) (Nat.le_of_ble_eq_true rfl), ?_⟩)))
    refine da_cons (de_addS (de_var rfl (de_var rfl ⟨[p], [p], rfl, rfl, add2 (Nat.le_of_ble_eq_true rfl) (Nat.le_of_ble_eq_true rfl), ?_⟩)))
    refine da_cons (de_addS (de_addS (de_var rfl (de_var rfl ⟨[p], [p], rfl, rfl, add2 (Nat.le_of_ble_eq_true rfl) (Nat.le_of_ble_eq_true rfl), de_var rfl ⟨_, [q], rfl, rfl, add2 (Nat.le_of_ble_eq_true rfl) (Nat.le_of_ble_eq_true rfl), ?_⟩⟩))))
    refine da_cons (de_addS (de_addS (de_var rfl (de_var rfl ⟨[p], [q], rfl, rfl, add2 (Nat.le_of_ble_eq_true rfl) (Nat.le_of_ble_eq_true rfl), de_var rfl ⟨_, [p], rfl, rfl, add2 (Nat.le_of_ble_eq_true rfl) (Nat.le_of_ble_eq_true rfl), ?_⟩⟩))))
    refine da_cons (de_addS (de_var rfl (de_var rfl ⟨[q], [q], rfl, rfl, add2 (Nat.le_of_ble_eq_true rfl) (Nat.le_of_ble_eq_true rfl), da_nil ⟨by show 8 ≤ sizeLine; decide, _, rfl, do_none (do_some (de_var rfl ⟨many, rfl, ?_⟩))⟩⟩)))
    rw [cutD_to m0]
    exact ⟨rfl, (pairW p q).take many.toNat, s7, s9, s10, .d (.str (tx [p])), .d (.str (tx [q])), s13, gp.take (by omega), by rw [← namesD_take]; rfl⟩
  obtain ⟨rfl, ws, s7, s9, s10, s11, s12, s13, hg, rfl⟩ := hv
  refine ds_ret (de_call g h0 hI (da_cons (de_var rfl (da_cons (de_var rfl (da_nil ⟨⟨_, namesD ws, rfl, .inl rfl, ?_⟩, fun d hd => ?_⟩))))))
  · rw [namesD_len, hg.1]
    omega
  · obtain ⟨xs, ys, hx, rfl, hp⟩ := hd
    rcases hx with hx | hx
    · cases hx
      obtain ⟨us, rfl, pu⟩ := names_perm hp
      exact ⟨many, us, rfl, rfl, hg.perm pu⟩
    · cases hx
end
end Dw

/-! P05h: what the four defs that have hand proofs ask. -/
namespace Dw
open PySem PySem.Spec PyProof.Rows L2
/-- what is asked, from a promise by what holds before and behind -/
def W.pp (pre : List D → Prop) (post : List D → D → Prop) (ds : List D) (k : D → Prop) : Prop := pre ds ∧ ∀ d, post ds d → k d
def p_names_in (x : D) (k : D → Prop) : Prop := W.pp preNam postNam [x] k
def p_mask_of (x y : D) (k : D → Prop) : Prop := W.pp preMsk postMsk [x, y] k
def p_names_of (x y : D) (k : D → Prop) : Prop := W.pp preNof postNof [x, y] k
def p_least_masks (x : D) (k : D → Prop) : Prop := W.pp preLea postLea [x] k
/-- the items in some order -/
def p__law_mixed (x : D) (k : D → Prop) : Prop := ∃ xs, (x = .lst xs ∨ x = .tup xs) ∧ xs.length ≤ 1000 ∧ ∀ ys, ys.Perm xs → k (.lst ys)
/-- distinct names -/
def p__law_words (x : D) (k : D → Prop) : Prop := ∃ m : Int, x = .int m ∧ 0 ≤ m ∧ m ≤ 8 ∧ ∀ ws, Good m.toNat ws → k (.lst (namesD ws))
/-- the law gives True at every script -/
def spLaw (K : PySem.W.Frag) : Sp := fun vs H Q _ => ∃ (a : Addr) (ns : List Int), vs = [.ref a] ∧ SqL K H a (ns.map V.int) ∧ ns.length ≤ 63 ∧ ∀ H', Q (.bl true) H'
section
variable {P : Program} {w : World} {K : PySem.W.Frag} {mg : Str → Option Value} {base : Heap}
theorem fn_pp {k : Nat} {f : Addr} {fd : FuncData} {ps : List Str} {pre : List D → Prop} {post : List D → D → Prop} {wf : List D → (D → Prop) → Prop} (F : FnOk P w K mg base CX0 k f fd ps (SpP K pre post)) (h : ∀ ds k, wf ds k → W.pp pre post ds k) : FnOk P w K mg base CX0 k f fd ps (SpP0 K wf) :=
  F.imp fun vs H Q E ⟨g, ds, F, kr, p, f0, tr, i, q, z⟩ => ⟨g, ds, F, p, f0, tr, i, (h ds kr q).1, fun v H' d s i' p' po => z v H' d s i' p' ((h ds kr q).2 d po)⟩
/-- the same for a def that has the source of draws -/
theorem fn_ppD {k : Nat} {f : Addr} {fd : FuncData} {ps : List Str} {pre : dealS.G → List D → Prop} {post : dealS.G → List D → D → Prop} {wf : List D → (D → Prop) → Prop} (F : FnOk P w K mg base CX0 k f fd ps (SpD K dealS pre post)) (h : ∀ g ds k, dealW wf g ds k → pre g ds ∧ ∀ d, post g ds d → k d) : FnOk P w K mg base CX0 k f fd ps (SpDl K wf) :=
  F.imp fun vs H Q E ⟨g, ds, F, kr, p, f0, tr, i, q, z⟩ => ⟨g, ds, F, p, f0, tr, i, (h g ds kr q).1, fun v H' d s i' p' po => z v H' d s i' p' ((h g ds kr q).2 d po)⟩
theorem mix_dw {k : Nat} {f : Addr} {fd : FuncData} {ps : List Str} (F : FnOk P w K mg base CX0 k f fd ps (SpD K dealS preMix postMix)) : FnOk P w K mg base CX0 k f fd ps (SpDl K (W.a1 p__law_mixed)) :=
  fn_ppD F fun g ds k ⟨r, e, h⟩ => by
    obtain ⟨x, rfl, h⟩ := a1_e h
    obtain ⟨xs, hx, hl, q⟩ := h
    subst e
    refine ⟨⟨x, xs, rfl, hx, hl⟩, fun d ⟨xs', ys, hx', ed, pm⟩ => ?_⟩
    subst ed
    have e2 : xs' = xs := by
      rcases hx' with e | e <;> rcases hx with rfl | rfl <;> cases e <;> rfl
    subst e2
    exact q ys pm
theorem wor_dw {k : Nat} {f : Addr} {fd : FuncData} {ps : List Str} (F : FnOk P w K mg base CX0 k f fd ps (SpD K dealS preWor postWor)) : FnOk P w K mg base CX0 k f fd ps (SpDl K (W.a1 p__law_words)) :=
  fn_ppD F fun g ds k ⟨r, e, h⟩ => by
    obtain ⟨x, rfl, h⟩ := a1_e h
    obtain ⟨m, rfl, h0, h8, q⟩ := h
    subst e
    refine ⟨⟨m, rfl, h0, h8⟩, fun d ⟨m', ws, e, ed, gd⟩ => ?_⟩
    cases e
    subst ed
    exact q ws gd
end
end Dw

namespace Dw
open PySem PySem.Spec PyProof.Rows L2
/-- the classes of the program, what isinstance says -/
structure Cn where
  Rule : Addr
  kit : Value → Value → Option Bool
def p_in_order (x0 x1 : D) (kr : D → Prop) : Prop := W.seq x0 fun xs6 => xs6.length < sizeLine ∧ W.comp (fun v1 q2 => p_names_of v1 x1 fun v3 => q2 (some v3)) xs6 [] fun v5 => W.sortedA [v5] fun v4 => W.sortedLen v4 fun v8 => W.tupleOf [v8] fun v7 => kr v7
def p_least_sets (x0 : D) (kr : D → Prop) : Prop := p_names_in x0 fun v1 => W.seq x0 fun xs8 => xs8.length < sizeLine ∧ W.comp (fun v2 q3 => p_mask_of v2 v1 fun v4 => q3 (some v4)) xs8 [] fun v7 => p_least_masks v7 fun v6 => p_in_order v6 v1 fun v5 => kr v5
def p_holds (x0 x1 : D) (kr : D → Prop) : Prop := W.seq x0 fun xs11 => xs11.length < sizeLine ∧ W.comp (fun v1 q5 => W.seq v1 fun xs8 => xs8.length < sizeLine ∧ W.comp (fun v2 q3 => (W.isIn false) v2 x1 fun v4 => q3 (some v4)) xs8 [] fun v7 => W.all [v7] fun v6 => q5 (some v6)) xs11 [] fun v10 => W.any [v10] fun v9 => kr v9
def p_Rule___init__ (c : Cn) (x1 : D) (kr : D → Prop) : Prop := p_names_in x1 fun v2 => W.tupleOf [v2] fun v1 => kr (.ins c.Rule ["least", "names"] [x1, v1])
def p_Rule_of_sets (c : Cn) (x0 x1 : D) (kr : D → Prop) : Prop := p_least_sets x1 fun v2 => (p_Rule___init__ c) v2 fun v1 => kr v1
def p_Rule___call__ (c : Cn) (x0 x1 : D) (kr : D → Prop) : Prop := W.fld [c.Rule] "least" x0 fun v2 => p_holds v2 x1 fun v1 => kr v1
def p_Rule___bool__ (c : Cn) (x0 : D) (kr : D → Prop) : Prop := W.fld [c.Rule] "least" x0 fun v2 => W.boolT [v2] fun v1 => kr v1
def p_show_set (x0 : D) (kr : D → Prop) : Prop := W.len [x0] fun v11 => W.eq v11 (D.int 0) fun v10 => W.truth v10 fun b9 => W.ite b9 (kr (D.str "always")) (W.len [x0] fun v8 => W.eq v8 (D.int 1) fun v7 => W.truth v7 fun b6 => W.ite b6 (W.ix x0 (D.int 0) fun v1 => kr v1) ((∃ s, (D.str " , ") = .str s) ∧ W.join1 (D.str " , ") [x0] fun v2 => W.cat Str.empty (D.str "all ( ") fun a3 => W.cat a3 v2 fun a4 => W.cat a4 (D.str " )") fun a5 => kr (D.str a5)))
def p_show_rule (c : Cn) (x0 : D) (kr : D → Prop) : Prop := W.fld [c.Rule] "least" x0 fun v6 => W.seq v6 fun xs5 => xs5.length < sizeLine ∧ W.comp (fun v1 q2 => p_show_set v1 fun v3 => q2 (some v3)) xs5 [] fun v4 => W.len [v4] fun v17 => W.eq v17 (D.int 0) fun v16 => W.truth v16 fun b15 => W.ite b15 (kr (D.str "never")) (W.len [v4] fun v14 => W.eq v14 (D.int 1) fun v13 => W.truth v13 fun b12 => W.ite b12 (W.ix v4 (D.int 0) fun v7 => kr v7) ((∃ s, (D.str " , ") = .str s) ∧ W.join1 (D.str " , ") [v4] fun v8 => W.cat Str.empty (D.str "any ( ") fun a9 => W.cat a9 v8 fun a10 => W.cat a10 (D.str " )") fun a11 => kr (D.str a11)))
def p_Rule___repr__ (c : Cn) (x0 : D) (kr : D → Prop) : Prop := W.cat Str.empty (D.str "Rule(") fun a1 => (p_show_rule c) x0 fun v3 => W.cat a1 v3 fun a2 => W.cat a2 (D.str ")") fun a4 => kr (D.str a4)
def p__law_some (x1 x2 : D) (kr : D → Prop) : Prop := W.seq x1 fun xs7 => xs7.length < sizeLine ∧ W.comp (fun v1 q2 => W.draw x2 fun v5 => W.eq v5 (D.int 0) fun v4 => W.truth v4 fun b3 => W.ite b3 (q2 (some v1)) (q2 none)) xs7 [] fun v6 => kr v6
def p__law_holds (x0 x1 : D) (kr : D → Prop) : Prop := W.seq x0 fun xs12 => xs12.length < sizeLine ∧ W.comp (fun v1 q6 => W.seq v1 fun xs9 => xs9.length < sizeLine ∧ W.comp (fun v2 q3 => (W.isIn true) v2 x1 fun v5 => W.truth v5 fun b4 => W.ite b4 (q3 (some v2)) (q3 none)) xs9 [] fun v8 => W.eq v8 (D.lst []) fun v7 => q6 (some v7)) xs12 [] fun v11 => (W.isIn false) (D.bl true) v11 fun v10 => kr v10
def p__law_within (x0 x1 : D) (kr : D → Prop) : Prop := W.seq x0 fun xs7 => xs7.length < sizeLine ∧ W.comp (fun v1 q2 => (W.isIn true) v1 x1 fun v4 => W.truth v4 fun b3 => W.ite b3 (q2 (some v1)) (q2 none)) xs7 [] fun v6 => W.eq v6 (D.lst []) fun v5 => kr v5
def p__law_least (x0 : D) (kr : D → Prop) : Prop := W.seq x0 fun xs36 => W.forL (S := (List D)) (fun y5 s6 n7 b8 => W.lenSetS y5 fun v9 => W.sortedSetS y5 fun v10 => (W.isIn true) (D.tup [v9, v10]) (D.lst s6) fun v12 => W.truth v12 fun b11 => W.ite b11 (s6.length < sizeLine ∧ n7 (s6 ++ [(D.tup [v9, v10])])) (n7 s6)) xs36 [] fun s13 => W.sortedA [(D.lst s13)] fun v35 => W.seq v35 fun xs34 => W.forL (S := (List D)) (fun y18 s19 n20 b21 => W.un2 y18 fun v22 v23 => s19.length < sizeLine ∧ W.comp (fun v24 q25 => p__law_within v24 v23 fun v27 => W.truth v27 fun b26 => W.ite b26 (q25 (some v24)) (q25 none)) s19 [] fun v31 => W.eq v31 (D.lst []) fun v30 => W.truth v30 fun b29 => W.ite b29 (W.tupleOf [v23] fun v28 => s19.length < sizeLine ∧ n20 (s19 ++ [v28])) (n20 s19)) xs34 [] fun s32 => W.tupleOf [(D.lst s32)] fun v33 => kr v33
def p__law_drawn_sets (x1 : D) (kr : D → Prop) : Prop := W.draw (D.int 9) fun v25 => W.draw (D.int 16) fun v28 => W.eq v28 (D.int 0) fun v27 => W.int1 [v27] fun v26 => W.ix (D.lst [v25, (D.int 40)]) v26 fun v24 => W.range1 v24 fun xs23 => W.forL (S := (List D)) (fun y6 s7 n8 b9 => W.len [x1] fun v11 => W.draw (D.int 8) fun v12 => W.ix (D.lst [(D.int 0), (D.int 1), (D.int 1), (D.int 2), (D.int 2), (D.int 3), (D.int 3), v11]) v12 fun v10 => p__law_mixed x1 fun v14 => W.part v10 fun o15 => W.sl v14 none o15 fun v13 => W.draw (D.int 4) fun v21 => W.eq v21 (D.int 0) fun v20 => W.int1 [v20] fun v19 => W.part v19 fun o18 => W.sl v13 none o18 fun v17 => W.add v13 v17 fun v16 => s7.length < sizeLine ∧ n8 (s7 ++ [v16])) xs23 [] fun s22 => kr (D.lst s22)
def p__law_truth (c : Cn) (x0 x1 : D) (kr : D → Prop) : Prop := W.join (fun k1 : D → Prop => W.isi c.kit (Value.type "bool") x0 fun v5 => W.truth v5 fun b3 => W.ite b3 (W.eq x0 x1 fun v4 => k1 v4) (k1 (D.bl false))) fun v2 => kr v2
def p_law (c : Cn) (x0 : D) (kr : D → Prop) : Prop := W.part (D.int 2) fun o122 => W.sl x0 none o122 fun v121 => W.len [v121] fun v120 => W.add (D.int 2) v120 fun v119 => W.range1 v119 fun xs118 => W.forL (S := (Unit)) (fun y12 s13 n14 b15 => W.draw (D.int 6) fun v18 => W.ix (D.lst [(D.int 3), (D.int 4), (D.int 5), (D.int 6), (D.int 6), (D.int 8)]) v18 fun v17 => p__law_words v17 fun v16 => p__law_drawn_sets v16 fun v19 => W.seq v19 fun xs102 => xs102.length < sizeLine ∧ W.comp (fun v20 q21 => W.draw (D.int 2) fun v98 => W.eq v98 (D.int 0) fun v97 => W.truth v97 fun b96 => W.ite b96 (W.listOf [v20] fun v99 => q21 (some v99)) (W.tupleOf [v20] fun v100 => q21 (some v100))) xs102 [] fun v101 => ∃ hs22, v101 = D.lst hs22 ∧ W.join (fun k104 : D → Prop => W.draw (D.int 2) fun v108 => W.eq v108 (D.int 0) fun v107 => W.truth v107 fun b106 => W.ite b106 (k104 (D.lst hs22)) (W.tupleOf [(D.lst hs22)] fun v109 => k104 v109)) fun v105 => (p_Rule_of_sets c) (.ref c.Rule) v105 fun v103 => (∃ v23, v23 = v103 ∧ v23.noL = true ∧ p__law_least v19 fun v110 => (∃ v24, v24 = v110 ∧ v24.noL = true ∧ W.seq (D.lst hs22) fun xs114 => xs114.length < sizeLine ∧ W.comp (fun v25 q26 => W.tupleOf [v25] fun v27 => q26 (some v27)) xs114 [] fun v113 => W.seq v19 fun xs116 => xs116.length < sizeLine ∧ W.comp (fun v28 q29 => W.tupleOf [v28] fun v30 => q29 (some v30)) xs116 [] fun v115 => W.ne v113 v115 fun v112 => W.truth v112 fun b111 => (b111 = false ∧ W.sortedA [v16] fun v43 => W.seq v43 fun xs42 => xs42.length < sizeLine ∧ W.comp (fun v31 q36 => W.seq v24 fun xs40 => xs40.length < sizeLine ∧ W.comp (fun v32 q33 => (W.isIn false) v31 v32 fun v35 => W.truth v35 fun b34 => W.ite b34 (q33 (some v32)) (q33 none)) xs40 [] fun v39 => W.ne v39 (D.lst []) fun v38 => W.truth v38 fun b37 => W.ite b37 (q36 (some v31)) (q36 none)) xs42 [] fun v41 => W.join (fun k83 : Bool → Prop => W.fld [c.Rule] "least" v23 fun v88 => W.repr [v88] fun v87 => W.repr [v24] fun v89 => W.ne v87 v89 fun v86 => W.truth v86 fun b85 => W.ite b85 (k83 true) (W.fld [c.Rule] "names" v23 fun v93 => W.repr [v93] fun v92 => W.tupleOf [v41] fun v95 => W.repr [v95] fun v94 => W.ne v92 v94 fun v91 => W.truth v91 fun b90 => k83 b90)) fun b84 => W.ite b84 (kr (D.bl false)) (W.range1 (D.int 10) fun xs82 => W.forL (S := (Unit)) (fun y47 s48 n49 b50 => W.draw (D.int 3) fun v54 => W.add (D.int 1) v54 fun v53 => p__law_some v16 v53 fun v52 => W.draw (D.int 2) fun v56 => W.mul (D.lst [(D.str "zzzzzz")]) v56 fun v55 => W.add v52 v55 fun v51 => W.draw (D.int 2) fun v60 => W.part v60 fun o59 => W.sl v51 none o59 fun v58 => W.add v51 v58 fun v57 => W.tupleOf [v57] fun v62 => W.draw (D.int 2) fun v63 => W.ix (D.lst [v57, v62]) v63 fun v61 => W.join (fun k64 : Bool → Prop => (∃ ns ds, v23 = .ins c.Rule ns ds) ∧ (p_Rule___call__ c) v23 v61 fun v69 => p__law_holds v19 v57 fun v70 => (p__law_truth c) v69 v70 fun v68 => W.truth v68 fun b67 => W.nt b67 fun b66 => W.ite b66 (k64 true) ((∃ ns ds, v23 = .ins c.Rule ns ds) ∧ (p_Rule___call__ c) v23 v61 fun v73 => (∃ ns ds, v23 = .ins c.Rule ns ds) ∧ W.tupleOf [v61] fun v75 => (p_Rule___call__ c) v23 v75 fun v74 => W.ne v73 v74 fun v72 => W.truth v72 fun b71 => k64 b71)) fun b65 => W.ite b65 (kr (D.bl false)) (n49 ())) xs82 () fun s76 => W.fld [c.Rule] "least" v23 fun v80 => W.repr [v80] fun v79 => W.repr [v24] fun v81 => W.ne v79 v81 fun v78 => W.truth v78 fun b77 => W.ite b77 (kr (D.bl false)) (n14 ())))))) xs118 () fun s117 => kr (D.bl true)
def p__law_sets (x1 : D) (kr : D → Prop) : Prop := W.draw (D.int 12) fun v1 => W.join (fun k57 : Bool → Prop => W.eq v1 (D.int 0) fun v60 => W.truth v60 fun b59 => W.ite b59 (k57 true) (W.len [x1] fun v63 => W.eq v63 (D.int 0) fun v62 => W.truth v62 fun b61 => k57 b61)) fun b58 => W.ite b58 (W.draw (D.int 3) fun v3 => W.ix (D.lst [(D.lst [(D.tup [])]), (D.lst [(D.tup [])]), (D.lst [])]) v3 fun v2 => kr v2) (p__law_mixed x1 fun v6 => W.part (D.int 5) fun o7 => W.sl v6 none o7 fun v5 => W.join (fun k50 : Bool → Prop => W.eq v1 (D.int 1) fun v53 => W.truth v53 fun b52 => W.ite b52 (W.len [x1] fun v56 => W.gt v56 (D.int 1) fun v55 => W.truth v55 fun b54 => k50 b54) (k50 false)) fun b51 => W.ite b51 (W.part (D.int 4) fun o25 => W.sl v5 none o25 fun v24 => W.len [v24] fun v23 => W.range1 v23 fun xs22 => W.forL (S := (List D)) (fun y9 s10 n11 b12 => W.part y9 fun o20 => W.sl v5 none o20 fun v19 => W.seq v19 fun xs18 => xs18.length < sizeLine ∧ W.comp (fun v13 q14 => W.ix v5 y9 fun v15 => q14 (some (D.tup [v15, v13]))) xs18 [] fun v17 => W.ext s10 v17 fun ys16 => n11 (s10 ++ ys16)) xs22 [] fun s21 => kr (D.lst s21)) ((W.isIn false) v1 (D.tup [(D.int 2), (D.int 3)]) fun v49 => W.truth v49 fun b48 => W.ite b48 (W.tupleOf [x1] fun v29 => W.seq v5 fun xs31 => xs31.length < sizeLine ∧ W.comp (fun v26 q27 => q27 (some (D.tup [v26]))) xs31 [] fun v30 => W.sub v1 (D.int 2) fun v32 => W.ix (D.lst [(D.lst [v29]), v30]) v32 fun v28 => kr v28) (W.draw (D.int 6) fun v47 => W.ix (D.lst [(D.int 1), (D.int 1), (D.int 1), (D.int 2), (D.int 2), (D.int 3)]) v47 fun v46 => W.range1 v46 fun xs45 => W.forL (S := (List D)) (fun y34 s35 n36 b37 => p__law_mixed x1 fun v40 => W.draw (D.int 6) fun v43 => W.ix (D.lst [(D.int 1), (D.int 1), (D.int 2), (D.int 2), (D.int 2), (D.int 3)]) v43 fun v42 => W.part v42 fun o41 => W.sl v40 none o41 fun v39 => W.tupleOf [v39] fun v38 => s35.length < sizeLine ∧ n36 (s35 ++ [v38])) xs45 [] fun s44 => kr (D.lst s44))))
def p__law_text (x0 : D) (kr : D → Prop) : Prop := W.seq x0 fun xs15 => xs15.length < sizeLine ∧ W.comp (fun v1 q2 => W.ne v1 (D.tup []) fun v13 => W.truth v13 fun b12 => W.ite b12 (W.join (fun k3 : D → Prop => W.len [v1] fun v7 => W.eq v7 (D.int 1) fun v6 => W.truth v6 fun b5 => W.ite b5 (W.ix v1 (D.int 0) fun v8 => k3 v8) ((∃ s, (D.str " , ") = .str s) ∧ W.join1 (D.str " , ") [v1] fun v11 => W.add (D.str "all ( ") v11 fun v10 => W.add v10 (D.str " )") fun v9 => k3 v9)) fun v4 => q2 (some v4)) (q2 none)) xs15 [] fun v14 => W.join (fun k27 : Bool → Prop => W.eq x0 (D.tup [(D.tup [])]) fun v30 => W.truth v30 fun b29 => W.ite b29 (k27 true) (W.eq v14 (D.lst []) fun v32 => W.truth v32 fun b31 => k27 b31)) fun b28 => W.ite b28 (W.len [x0] fun v17 => W.ix (D.lst [(D.str "never"), (D.str "always")]) v17 fun v16 => kr v16) (W.join (fun k18 : D → Prop => W.len [v14] fun v22 => W.eq v22 (D.int 1) fun v21 => W.truth v21 fun b20 => W.ite b20 (W.ix v14 (D.int 0) fun v23 => k18 v23) ((∃ s, (D.str " , ") = .str s) ∧ W.join1 (D.str " , ") [v14] fun v26 => W.add (D.str "any ( ") v26 fun v25 => W.add v25 (D.str " )") fun v24 => k18 v24)) fun v19 => kr v19)
def p__law_fields_right (c : Cn) (x0 x1 : D) (kr : D → Prop) : Prop := W.seq x1 fun xs8 => xs8.length < sizeLine ∧ W.comp (fun v1 q2 => W.listOf [v1] fun v3 => q2 (some v3)) xs8 [] fun v7 => W.sumL v7 (D.lst []) fun v6 => W.sortedSetS v6 fun v5 => W.tupleOf [v5] fun v4 => W.join (fun k20 : Bool → Prop => W.fld [c.Rule] "least" x0 fun v25 => W.repr [v25] fun v24 => W.repr [x1] fun v26 => W.ne v24 v26 fun v23 => W.truth v23 fun b22 => W.ite b22 (k20 true) (W.fld [c.Rule] "names" x0 fun v30 => W.repr [v30] fun v29 => W.repr [v4] fun v31 => W.ne v29 v31 fun v28 => W.truth v28 fun b27 => W.ite b27 (k20 true) ((∃ ns ds, x0 = .ins c.Rule ns ds) ∧ (p_Rule___bool__ c) x0 (W.isBl fun v34 => W.ne x1 (D.tup []) fun v35 => W.ne v34 v35 fun v33 => W.truth v33 fun b32 => k20 b32)))) fun b21 => W.ite b21 (kr (D.bl false)) (W.join (fun k9 : D → Prop => (p_show_rule c) x0 fun v18 => p__law_text x1 fun v19 => W.eq v18 v19 fun v17 => W.truth v17 fun b11 => W.ite b11 ((∃ ns ds, x0 = .ins c.Rule ns ds) ∧ (p_Rule___repr__ c) x0 (W.isTx fun v13 => p__law_text x1 fun v16 => W.add (D.str "Rule(") v16 fun v15 => W.add v15 (D.str ")") fun v14 => W.eq v13 v14 fun v12 => k9 v12)) (k9 (D.bl false))) fun v10 => kr v10)
def p__law_subsets (x0 : D) (kr : D → Prop) : Prop := W.seq x0 fun xs6 => xs6.length < sizeLine ∧ W.comp (fun x4 q3 => W.un2 x4 fun v1 v2 => q3 (some v1)) xs6 [] fun v5 => W.seq v5 fun xs42 => W.forL (S := (D)) (fun y8 s9 n10 b11 => W.seq s9 fun xs17 => xs17.length < sizeLine ∧ W.comp (fun v12 q13 => W.add v12 (D.tup [y8]) fun v14 => q13 (some v14)) xs17 [] fun v16 => W.add s9 v16 fun v15 => n10 v15) xs42 (D.lst [(D.tup [])]) fun s18 => W.seq s18 fun xs29 => xs29.length < sizeLine ∧ W.comp (fun v19 q23 => W.len [v19] fun v24 => W.seq v19 fun xs26 => xs26.length < sizeLine ∧ W.comp (fun v20 q21 => (∃ xs, v5 = .lst xs) ∧ W.indexS v5 v20 fun v22 => q21 (some v22)) xs26 [] fun v25 => q23 (some (D.tup [v24, v25]))) xs29 [] fun v28 => W.sortedA [v28] fun v27 => W.seq v27 fun xs41 => xs41.length < sizeLine ∧ W.comp (fun x36 q35 => W.un2 x36 fun v30 v31 => W.seq v31 fun xs39 => xs39.length < sizeLine ∧ W.comp (fun v32 q33 => W.ix v5 v32 fun v34 => q33 (some v34)) xs39 [] fun v38 => W.tupleOf [v38] fun v37 => q35 (some v37)) xs41 [] fun v40 => kr v40
end Dw

/-! Wq2: what is asked, shown: comprehensions, rows of texts. -/
namespace Dw
open PySem PySem.Spec PyProof.Rows L2
theorem q_compA {body : D → (Option D → Prop) → Prop} {k : D → Prop} {α : Type} (F : α → D) (g : α → Option D) : ∀ {l : List α} {acc : List D}, (∀ a ∈ l, ∀ q, q (g a) → body (F a) q) → k (.lst (acc ++ l.filterMap g)) → W.comp body (l.map F) acc k
  | [], acc, _, h => by
    rw [List.filterMap_nil, List.append_nil] at h
    exact h
  | a :: l, acc, hb, h => by
    refine hb a List.mem_cons_self _ ?_
    refine q_compA F g (fun b hm => hb b (List.mem_cons_of_mem _ hm)) ?_
    rw [List.append_assoc]
    cases e : g a with
    | none =>
      rw [List.filterMap_cons_none e] at h
      exact h
    | some d =>
      rw [List.filterMap_cons_some e] at h
      exact h
/-- a comprehension over a row -/
theorem q_comp {body : D → (Option D → Prop) → Prop} {k : D → Prop} {α : Type} (F : α → D) (g : α → Option D) {l : List α} (hz : l.length < sizeLine) (hb : ∀ a ∈ l, ∀ q, q (g a) → body (F a) q) (h : k (.lst (l.filterMap g))) : (l.map F).length < sizeLine ∧ W.comp body (l.map F) [] k :=
  ⟨by rw [List.length_map]; exact hz, q_compA F g hb h⟩
theorem q_seq {x : D} {xs : List D} {k : List D → Prop} (hx : x = .lst xs ∨ x = .tup xs) (h : k xs) : W.seq x k := by
  rcases hx with rfl | rfl <;> exact h
theorem any_str {s : Str} : ∀ {ss : List Str}, ((ss.map D.str).any fun z => z.alike (.str s)) = decide (s ∈ ss)
  | [] => rfl
  | t :: ss => by
    rw [List.map_cons, List.any_cons, any_str]
    have e : D.alike (.str t) (.str s) = decide (s = t) := by
      show (t == s) = decide (s = t)
      by_cases h : s = t
      · simp [h]
      · rw [decide_eq_false h]
        exact beq_false_of_ne fun z => h z.symm
    rw [e]
    by_cases h : s = t <;> simp [h]
theorem flat_strs (ss : List Str) : (ss.map D.str).all D.flatB = true := by
  rw [List.all_eq_true]
  intro x hx
  obtain ⟨s, _, rfl⟩ := List.mem_map.mp hx
  rfl
theorem q_inS {neg : Bool} {s : Str} {y : D} {ss : List Str} {k : D → Prop} (hy : y = .lst (ss.map D.str) ∨ y = .tup (ss.map D.str)) (h : k (.bl (neg != decide (s ∈ ss)))) : W.isIn neg (.str s) y k :=
  .inl ⟨_, hy, rfl, flat_strs ss, by rw [any_str]; exact h⟩
theorem q_all {bs : List Bool} {k : D → Prop} (h : k (.bl (bs.all id))) : W.all [.lst (bs.map D.bl)] k := ⟨bs, rfl, h⟩
theorem q_any {bs : List Bool} {k : D → Prop} (h : k (.bl (bs.any id))) : W.any [.lst (bs.map D.bl)] k := ⟨bs, rfl, h⟩
theorem filterMap_some {α β : Type} (f : α → β) (l : List α) : l.filterMap (fun a => some (f a)) = l.map f := by
  induction l with
  | nil => rfl
  | cons a l ih => simp
theorem filterMap_if {α : Type} (p : α → Bool) (F : α → D) (l : List α) : l.filterMap (fun a => if p a then some (F a) else none) = (l.filter p).map F := by
  induction l with
  | nil => rfl
  | cons a l ih =>
    by_cases h : p a = true
    · rw [List.filterMap_cons_some (by rw [if_pos h]), ih, List.filter_cons_of_pos h]; rfl
    · rw [List.filterMap_cons_none (by rw [if_neg h]), ih, List.filter_cons_of_neg h]
/-- texts of signs that may be shown -/
def Oks (ss : List Str) : Prop := ∀ s ∈ ss, PyData.strOk s = true
theorem deep_strs {ss : List Str} (h : Oks ss) : (∀ x ∈ ss.map D.str, x.pl = true) ∧ ∀ x ∈ ss.map D.str, x.py.depth ≤ 0 := by
  constructor
  · intro x hx
    obtain ⟨s, hs, rfl⟩ := List.mem_map.mp hx
    exact h s hs
  · intro x hx
    obtain ⟨s, _, rfl⟩ := List.mem_map.mp hx
    exact Nat.le_refl _
theorem deepL {n : Nat} {xs : List D} (h1 : ∀ x ∈ xs, x.pl = true) (h2 : ∀ x ∈ xs, x.py.depth ≤ n) (hn : n + 1 ≤ 64) : (D.lst xs).deep :=
  ⟨plL_of h1, Nat.le_trans (Nat.succ_le_succ (depthAll_le h2)) hn⟩
theorem deepT {n : Nat} {xs : List D} (h1 : ∀ x ∈ xs, x.pl = true) (h2 : ∀ x ∈ xs, x.py.depth ≤ n) (hn : n + 1 ≤ 64) : (D.tup xs).deep :=
  ⟨plL_of h1, Nat.le_trans (Nat.succ_le_succ (depthAll_le h2)) hn⟩
/-- a row of texts beside the empty row -/
theorem Oks.filter {ss : List Str} (h : Oks ss) (p : Str → Bool) : Oks (ss.filter p) := fun s hs => h s (List.mem_filter.mp hs).1
theorem q_eqNil {ss : List Str} {k : D → Prop} (ok : Oks ss) (h : k (.bl ss.isEmpty)) : W.eq (.lst (ss.map D.str)) (.lst []) k := by
  refine .inr ⟨deepL (deep_strs ok).1 (deep_strs ok).2 (by decide), ⟨rfl, by decide⟩, ?_⟩
  cases ss with
  | nil => exact h
  | cons s ss => exact h
theorem q_allF {α : Type} {p : α → Bool} {l : List α} {k : D → Prop} (h : k (.bl (l.all p))) : W.all [.lst (l.map fun a => .bl (p a))] k := ⟨l.map p, by rw [List.map_map]; rfl, by rw [List.all_map]; exact h⟩
theorem q_anyF {α : Type} {p : α → Bool} {l : List α} {k : D → Prop} (h : k (.bl (l.any p))) : W.any [.lst (l.map fun a => .bl (p a))] k := ⟨l.map p, by rw [List.map_map]; rfl, by rw [List.any_map]; exact h⟩
/-- True in a row of truth values -/
theorem q_inT {α : Type} {p : α → Bool} {l : List α} {k : D → Prop} (h : k (.bl (l.any p))) : W.isIn false (.bl true) (.lst (l.map fun a => .bl (p a))) k := by
  refine .inl ⟨_, .inl rfl, rfl, ?_, ?_⟩
  · rw [List.all_eq_true]
    intro x hx
    obtain ⟨a, _, rfl⟩ := List.mem_map.mp hx
    rfl
  · have e : (false != (l.map fun a => D.bl (p a)).any fun z => z.alike (.bl true)) = l.any p := by
      rw [List.any_map]
      have f : ((fun z => z.alike (D.bl true)) ∘ fun a => D.bl (p a)) = p := funext fun a => by
        show (p a == true) = p a
        cases p a <;> rfl
      rw [f]
      cases l.any p <;> rfl
    rw [e]
    exact h
/-! sorted rows of tuples of texts -/
open PySem.W (AllAlike Sortable dataLe alike alikeAll) in
theorem alike_strs : ∀ (a b : List Str), alikeAll (a.map PyData.str) (b.map PyData.str) = true
  | [], [] => rfl
  | [], b :: bs => rfl
  | a :: as, [] => rfl
  | a :: as, b :: bs => by
    have := alike_strs as bs
    simp [List.map_cons, alikeAll, alike, this]
def tupS (ss : List Str) : D := .tup (ss.map D.str)
theorem pyL_strs (ss : List Str) : D.pyL (ss.map D.str) = ss.map PyData.str := by
  rw [pyL_map, List.map_map]
  rfl
theorem tupS_py (ss : List Str) : (tupS ss).py = .tuple (ss.map PyData.str) := congrArg PyData.tuple (pyL_strs ss)
open PySem.W (AllAlike Sortable dataLe alike alikeAll) in
/-- sorted of tuples of texts: one at most, or none of them empty -/
theorem q_sortT {zs : List (List Str)} {k : D → Prop} (ok : ∀ z ∈ zs, Oks z) (hw : zs.length < 2 ∨ ∀ z ∈ zs, z ≠ []) (h : k (.lst (sortD (zs.map tupS)))) : W.sortedA [.lst (zs.map tupS)] k := by
  refine .inr ⟨zs.map tupS, rfl, fun d hd => ?_, hw.imp (fun z => by rw [List.length_map]; exact z) fun hw => ⟨?_, .inl ?_, ?_⟩, h⟩
  · obtain ⟨z, hz, rfl⟩ := List.mem_map.mp hd
    exact plL_of (deep_strs (ok z hz)).1
  · intro d hd e he
    rw [pyL_map] at hd he
    obtain ⟨d', hd', rfl⟩ := List.mem_map.mp hd
    obtain ⟨e', he', rfl⟩ := List.mem_map.mp he
    obtain ⟨a, _, rfl⟩ := List.mem_map.mp hd'
    obtain ⟨b, _, rfl⟩ := List.mem_map.mp he'
    rw [tupS_py, tupS_py, alike]
    exact alike_strs a b
  · intro d hd
    rw [pyL_map] at hd
    obtain ⟨d', hd', rfl⟩ := List.mem_map.mp hd
    obtain ⟨a, ha, rfl⟩ := List.mem_map.mp hd'
    rw [tupS_py]
    cases e : a with
    | nil => exact absurd e (hw a ha)
    | cons s ss => exact ⟨_, _, rfl⟩
  · intro d hd
    obtain ⟨a, ha, rfl⟩ := List.mem_map.mp hd
    exact Nat.le_trans (Nat.succ_le_succ (depthAll_le (deep_strs (ok a ha)).2)) (by decide)
theorem q_sortLen {xs : List D} {k : D → Prop} (hx : ∀ x ∈ xs, ∃ ts, x = .tup ts) (h : k (.lst (sortL xs))) : W.sortedLen (.lst xs) k := ⟨xs, rfl, hx, h⟩
theorem mem_sortD {xs : List D} {x : D} : x ∈ sortD xs ↔ x ∈ xs := List.mem_mergeSort
theorem q_lenT {xs : List D} {n : Nat} {k : D → Prop} (e : xs.length = n) (h : k (.int (n : Int))) : W.len [.tup xs] k := by
  subst e
  exact h
theorem q_lenL {xs : List D} {n : Nat} {k : D → Prop} (e : xs.length = n) (h : k (.int (n : Int))) : W.len [.lst xs] k := by
  subst e
  exact h
end Dw

/-! M05: what k05's defs ask, shown for rows of names. -/
namespace Dw
open PySem PySem.Spec PyProof.Rows L2
/-- a row of texts, a list or a tuple -/
def Row (x : D) (ss : List Str) : Prop := x = .lst (ss.map D.str) ∨ x = .tup (ss.map D.str)
/-- rows of texts in a list or a tuple -/
def RowsD (x : D) (zs : List (List Str)) : Prop := x = .lst (zs.map fun z => .tup (z.map D.str)) ∨ x = .tup (zs.map fun z => .tup (z.map D.str))
theorem m_within {x y : D} {a b : List Str} {k : D → Prop} (hx : Row x a) (hy : Row y b) (hz : a.length < sizeLine) (ok : Oks a) (h : k (.bl (a.all fun s => decide (s ∈ b)))) : p__law_within x y k := by
  unfold p__law_within
  refine q_seq hx (q_comp D.str (fun s => if (!decide (s ∈ b)) then some (.str s) else none) hz (fun s hs q hq => ?_) ?_)
  · refine q_inS hy (q_t ?_)
    show W.ite (true != decide (s ∈ b)) _ _
    by_cases e : s ∈ b
    · rw [decide_eq_true e] at hq ⊢
      exact q_F hq
    · rw [decide_eq_false e] at hq ⊢
      exact q_T hq
  · rw [filterMap_if]
    refine q_eqNil (ok.filter _) ?_
    have e : (a.filter fun s => !decide (s ∈ b)).isEmpty = a.all fun s => decide (s ∈ b) := by
      rw [Bool.eq_iff_iff, List.isEmpty_iff, List.filter_eq_nil_iff, List.all_eq_true]
      simp
    rw [e]
    exact h
/-- one of the rows lies within b -/
def holdsN (zs : List (List Str)) (b : List Str) : Bool := zs.any fun z => z.all fun s => decide (s ∈ b)
theorem m_holds {x y : D} {zs : List (List Str)} {b : List Str} {k : D → Prop} (hx : RowsD x zs) (hy : Row y b) (hz : zs.length < sizeLine) (hs : ∀ z ∈ zs, z.length < sizeLine) (h : k (.bl (holdsN zs b))) : p_holds x y k := by
  unfold p_holds
  refine q_seq hx (q_comp (fun z : List Str => .tup (z.map D.str)) (fun z => some (.bl (z.all fun s => decide (s ∈ b)))) hz (fun z hzm q hq => ?_) ?_)
  · refine q_seq (.inr rfl) (q_comp D.str (fun s => some (.bl (decide (s ∈ b)))) (hs z hzm) (fun s _ q2 h2 => q_inS hy ?_) ?_)
    · show q2 (some (.bl (false != decide (s ∈ b))))
      have e : (false != decide (s ∈ b)) = decide (s ∈ b) := by cases decide (s ∈ b) <;> rfl
      rw [e]
      exact h2
    · rw [filterMap_some]
      exact q_allF hq
  · rw [filterMap_some]
    exact q_anyF h
theorem all_filter {a b : List Str} : (a.filter fun s => !decide (s ∈ b)).isEmpty = a.all fun s => decide (s ∈ b) := by
  rw [Bool.eq_iff_iff, List.isEmpty_iff, List.filter_eq_nil_iff, List.all_eq_true]
  simp
theorem m_in_order {ms : List Nat} {names : List Str} {k : D → Prop} (hn : names.length ≤ 64) (hz : ms.length < sizeLine) (ok : ∀ m ∈ ms, Oks (namesN names m)) (hw : ms.length < 2 ∨ ∀ m ∈ ms, namesN names m ≠ [])
    (h : k (.tup (sortL (sortD (ms.map fun m => tupS (namesN names m)))))) : p_in_order (.lst (ms.map natD)) (.lst (names.map D.str)) k := by
  unfold p_in_order
  refine q_seq (.inl rfl) (q_comp natD (fun m => some (tupS (namesN names m))) hz (fun m hm q hq => ?_) ?_)
  · refine ⟨⟨m, names, rfl, hn⟩, fun d hd => ?_⟩
    obtain ⟨m', names', e, rfl⟩ := hd
    have e1 : m = m' := by
      have := List.cons.inj e
      have z := D.int.inj this.1
      omega
    have e2 : names = names' := by
      have := (List.cons.inj (List.cons.inj e).2).1
      exact List.map_inj_right (fun a b z => D.str.inj z) |>.mp (D.lst.inj this)
    subst e1
    subst e2
    exact hq
  · rw [filterMap_some]
    have em : (ms.map fun m => tupS (namesN names m)) = (ms.map fun m => namesN names m).map tupS := by rw [List.map_map]; rfl
    rw [em] at h ⊢
    refine q_sortT (fun z hz => ?_) (hw.imp (fun z => by rw [List.length_map]; exact z) fun hw z hz => ?_) (q_sortLen (fun x hx => ?_) h)
    · obtain ⟨m, hm, rfl⟩ := List.mem_map.mp hz
      exact ok m hm
    · obtain ⟨m, hm, rfl⟩ := List.mem_map.mp hz
      exact hw m hm
    · obtain ⟨z, _, rfl⟩ := List.mem_map.mp (mem_sortD.mp hx)
      exact ⟨_, rfl⟩
theorem m_truth {c : Cn} {a b : Bool} {k : D → Prop} (hk : c.kit (.type "bool") (.type "bool") = some true) (h : k (.bl (decide (a = b)))) : p__law_truth c (.bl a) (.bl b) k := by
  unfold p__law_truth
  refine q_join ⟨⟨true, (fun z => nomatch z), hk, q_t (q_T (.inl ⟨_, _, rfl, rfl, rfl, ?_⟩))⟩⟩
  have e : decide (V.bl a = V.bl b) = decide (a = b) := by
    cases a <;> cases b <;> rfl
  rw [e]
  exact h
end Dw

/-! M05b: least_sets. -/
namespace Dw
open PySem PySem.Spec PyProof.Rows L2
def lstS (ss : List Str) : D := .lst (ss.map D.str)
theorem map_str_inj {a b : List Str} (h : a.map D.str = b.map D.str) : a = b := List.map_inj_right (fun _ _ z => D.str.inj z) |>.mp h
theorem nodup_sub {α : Type} [DecidableEq α] : ∀ {ys B : List α}, ys.Nodup → (∀ y ∈ ys, y ∈ B) → ys.length ≤ B.length
  | [], B, _, _ => Nat.zero_le _
  | y :: ys, B, n, h => by
    have hy := h y List.mem_cons_self
    have n' := List.nodup_cons.mp n
    have := nodup_sub (B := B.erase y) n'.2 fun z hz => (List.mem_erase_of_ne (a := z) (b := y) fun e => n'.1 (by rw [← e]; exact hz)).mpr (h z (List.mem_cons_of_mem _ hz))
    rw [List.length_erase_of_mem hy] at this
    have pos := List.length_pos_of_mem hy
    rw [List.length_cons]
    omega
theorem setsD_row {x : D} {zs : List (List Str)} {F : List Str → D} (hF : F = lstS ∨ F = tupS) (hx : x = .lst (zs.map F) ∨ x = .tup (zs.map F)) : SetsD x zs := by
  refine ⟨zs.map F, hx, by rw [List.length_map], fun i y z hy hz => ?_⟩
  rw [List.getElem?_map, hz] at hy
  cases hy
  rcases hF with rfl | rfl
  · exact .inl rfl
  · exact .inr rfl
theorem setsD_inj {x : D} {zs zs' : List (List Str)} (h : SetsD x zs) (h' : SetsD x zs') : zs = zs' := by
  obtain ⟨xs, hx, hl, hi⟩ := h
  obtain ⟨xs', hx', hl', hi'⟩ := h'
  have e : xs = xs' := by
    rcases hx with rfl | rfl <;> rcases hx' with e | e <;> cases e <;> rfl
  subst e
  refine List.ext_getElem? fun i => ?_
  by_cases h1 : i < xs.length
  · have a1 : zs[i]? = some (zs[i]'(by omega)) := List.getElem?_eq_getElem _
    have a2 : zs'[i]? = some (zs'[i]'(by omega)) := List.getElem?_eq_getElem _
    have a3 : xs[i]? = some (xs[i]'h1) := List.getElem?_eq_getElem _
    have q1 := hi i _ _ a3 a1
    have q2 := hi' i _ _ a3 a2
    rw [a1, a2]
    congr 1
    rcases q1 with q1 | q1 <;> rcases q2 with q2 | q2 <;> rw [q1] at q2 <;> first
      | exact map_str_inj (D.lst.inj q2)
      | exact map_str_inj (D.tup.inj q2)
      | cases q2
  · rw [List.getElem?_eq_none (by omega), List.getElem?_eq_none (by omega)]
theorem mem_namesN {α : Type} [DecidableEq α] : ∀ {ns : List α} {m : Nat} {n : α}, n ∈ namesN ns m → n ∈ ns
  | [], _, _, h => h
  | a :: ns, m, n, h => by
    unfold namesN at h
    split at h
    · rcases List.mem_cons.mp h with rfl | h
      · exact List.mem_cons_self
      · exact List.mem_cons_of_mem _ (mem_namesN h)
    · exact List.mem_cons_of_mem _ (mem_namesN h)
theorem m_mask {x : D} {one names : List Str} {k : D → Prop} (hx : Row x one) (hn : names.length ≤ 64) (h : k (natD (maskN names one))) : p_mask_of x (.lst (names.map D.str)) k := by
  refine ⟨⟨x, one, names, rfl, hx, hn⟩, fun d ⟨x', one', names', e, hx', ed⟩ => ?_⟩
  have e1 : x = x' := (List.cons.inj e).1
  have e2 : names = names' := map_str_inj (D.lst.inj (List.cons.inj (List.cons.inj e).2).1)
  subst e1
  subst e2
  have e3 : one = one' := by
    rcases hx with rfl | rfl <;> rcases hx' with q | q <;> first
      | exact map_str_inj (D.lst.inj q)
      | exact map_str_inj (D.tup.inj q)
      | cases q
  subst e3
  subst ed
  exact h
theorem natD_inj {a b : List Nat} (h : a.map natD = b.map natD) : a = b := List.map_inj_right (fun x y z => by
  have := D.int.inj z
  omega) |>.mp h
/-- what least_sets gives: the least of the sets, as rising masks over the names that occur, told as texts and sorted -/
theorem m_least_sets {x : D} {zs : List (List Str)} {F : List Str → D} {k : D → Prop} (hF : F = lstS ∨ F = tupS) (hx : x = .lst (zs.map F) ∨ x = .tup (zs.map F)) (few : ∃ B : List Str, B.length < 64 ∧ Oks B ∧ ∀ z ∈ zs, ∀ n ∈ z, n ∈ B) (hz : zs.length < 64)
    (h : ∀ (ys : List Str) (kept : List Nat), ys.Nodup → sortedS ys = true → (∀ n, n ∈ ys ↔ ∃ z ∈ zs, n ∈ z) → kept.Pairwise (· < ·) → (∀ m, m ∈ kept ↔ Lst within (zs.map (maskN ys)) m) → k (.tup (sortL (sortD (kept.map fun m => tupS (namesN ys m)))))) : p_least_sets x k := by
  obtain ⟨B, hB, okB, hzB⟩ := few
  unfold p_least_sets
  refine ⟨⟨x, zs, rfl, setsD_row hF hx, B, hB, hzB⟩, fun d ⟨x', zs', ys, e, hs, ed, nd, so, hy⟩ => ?_⟩
  obtain rfl := (List.cons.inj e).1
  obtain rfl := setsD_inj (setsD_row hF hx) hs
  subst ed
  have yB : ∀ y ∈ ys, y ∈ B := fun y hy' => by
    obtain ⟨z, hz1, hz2⟩ := (hy y).mp hy'
    exact hzB z hz1 y hz2
  have ly : ys.length ≤ 64 := Nat.le_of_lt (Nat.lt_of_le_of_lt (nodup_sub nd yB) hB)
  have s64 : (64 : Nat) < sizeLine := by decide
  refine q_seq hx (q_comp F (fun z => some (natD (maskN ys z))) (by omega) (fun z _ q hq => m_mask ?_ ly hq) ?_)
  · rcases hF with rfl | rfl
    · exact .inl rfl
    · exact .inr rfl
  rw [filterMap_some]
  have em : (zs.map fun z => natD (maskN ys z)) = (zs.map (maskN ys)).map natD := by rw [List.map_map]; rfl
  rw [em]
  have sb : (64 : Nat) < scanBound := by decide +kernel
  refine ⟨⟨_, zs.map (maskN ys), rfl, .inl rfl, by rw [List.length_map]; omega⟩, fun d ⟨x', ms', z2, e, hm, r2, m2, ed⟩ => ?_⟩
  have e1 := (List.cons.inj e).1
  subst e1
  have e2 : zs.map (maskN ys) = ms' := by
    rcases hm with q | q <;> first
      | exact natD_inj (D.lst.inj q)
      | cases q
  subst e2
  subst ed
  have asc : z2.Pairwise (fun a b => within b a = false) := r2.imp fun {a b} hab => by
    rw [Bool.eq_false_iff]
    intro w
    have := within_le w
    omega
  obtain ⟨sl, ks⟩ := keep_spec (sub := within) (fun m => within_bits.mpr fun i h => h) (fun a b c h1 h2 => within_bits.mpr fun i h => within_bits.mp h2 i (within_bits.mp h1 i h)) asc
  have kr : (keep within [] z2).Pairwise (· < ·) := r2.sublist sl
  have km : ∀ m, m ∈ keep within [] z2 ↔ Lst within (zs.map (maskN ys)) m := fun m => by
    rw [ks m]
    unfold Lst
    rw [m2 m]
    exact and_congr_right fun _ => forall_congr' fun c => by rw [m2 c]
  refine m_in_order ly ?_ (fun m _ s hs => okB s (yB s (mem_namesN hs))) ?_ (h ys _ nd so hy kr km)
  · have n2 : z2.Nodup := r2.imp fun {a b} hab => Nat.ne_of_lt hab
    have l2 := nodup_sub (B := zs.map (maskN ys)) n2 fun m hm => (m2 m).mp hm
    rw [List.length_map] at l2
    have := sl.length_le
    omega
  · by_cases z0 : (0 : Nat) ∈ keep within [] z2
    · left
      have all0 : ∀ m ∈ keep within [] z2, m = 0 := fun m hm => ((km m).mp hm).2 0 ((km 0).mp z0).1 (within_bits.mpr fun i hi => by
        rw [Nat.zero_testBit] at hi
        cases hi) |>.symm
      match e : keep within [] z2, kr, all0 with
      | [], _, _ => exact Nat.zero_lt_two
      | [a], _, _ => exact Nat.one_lt_two
      | a :: b :: l, kr, all0 =>
        have h1 := all0 a List.mem_cons_self
        have h2 := all0 b (List.mem_cons_of_mem _ List.mem_cons_self)
        have h3 := (List.pairwise_cons.mp kr).1 b List.mem_cons_self
        omega
    · right
      intro m hm e
      obtain ⟨hm1, _⟩ := (km m).mp hm
      obtain ⟨z, _, rfl⟩ := List.mem_map.mp hm1
      have e0 : maskN ys z = 0 := by
        rw [namesN_mask, List.filter_eq_nil_iff] at e
        refine Nat.eq_of_testBit_eq fun i => ?_
        rw [maskN_bit, Nat.zero_testBit]
        cases q : ys[i]? with
        | none => rfl
        | some n =>
          have := e n (List.mem_of_getElem? q)
          simpa using this
      rw [e0] at hm
      exact z0 hm
end Dw

/-! M05c: rules: made, asked, given and lacking a name. -/
namespace Dw
open PySem PySem.Spec PyProof.Rows L2
def unS : D → Str
  | .str s => s
  | _ => Str.empty
def unT : D → List Str
  | .tup ds => ds.map unS
  | _ => []
theorem unT_tupS (z : List Str) : unT (tupS z) = z := by
  show (z.map D.str).map unS = z
  rw [List.map_map]
  have : unS ∘ D.str = id := rfl
  rw [this, List.map_id]
/-- rows as sorted and then sorted by length leaves them -/
def srt (zs : List (List Str)) : List (List Str) := (sortL (sortD (zs.map tupS))).map unT
theorem srt_perm (zs : List (List Str)) : (srt zs).Perm zs := by
  have p : (sortL (sortD (zs.map tupS))).Perm (zs.map tupS) := (List.mergeSort_perm _ _).trans (List.mergeSort_perm _ _)
  have q := p.map unT
  rw [List.map_map] at q
  have e : unT ∘ tupS = id := funext unT_tupS
  rw [e, List.map_id] at q
  exact q
theorem srt_map (zs : List (List Str)) : sortL (sortD (zs.map tupS)) = (srt zs).map tupS := by
  have p : (sortL (sortD (zs.map tupS))).Perm (zs.map tupS) := (List.mergeSort_perm _ _).trans (List.mergeSort_perm _ _)
  unfold srt
  rw [List.map_map]
  refine (List.map_id' _).symm.trans (List.map_congr_left fun x hx => ?_)
  obtain ⟨z, _, rfl⟩ := List.mem_map.mp (p.mem_iff.mp hx)
  show tupS z = tupS (unT (tupS z))
  rw [unT_tupS]
/-- rows are the least of the sets, as the program writes them -/
def IsLeast (zs rows : List (List Str)) : Prop := ∃ (ys : List Str) (kept : List Nat), ys.Nodup ∧ sortedS ys = true ∧ (∀ n, n ∈ ys ↔ ∃ z ∈ zs, n ∈ z) ∧ kept.Pairwise (· < ·) ∧ (∀ m, m ∈ kept ↔ Lst within (zs.map (maskN ys)) m) ∧ rows = srt (kept.map (namesN ys))
def IsNames (rows : List (List Str)) (ys : List Str) : Prop := ys.Nodup ∧ sortedS ys = true ∧ ∀ n, n ∈ ys ↔ ∃ z ∈ rows, n ∈ z
def ruleD (c : Cn) (rows : List (List Str)) (ys : List Str) : D := .ins c.Rule ["least", "names"] [.tup (rows.map tupS), .tup (ys.map D.str)]
/-- few names, all sound -/
def FewOk (zs : List (List Str)) : Prop := ∃ B : List Str, B.length < 64 ∧ Oks B ∧ ∀ z ∈ zs, ∀ n ∈ z, n ∈ B
theorem IsLeast.few {zs rows : List (List Str)} (h : IsLeast zs rows) (f : FewOk zs) : FewOk rows := by
  obtain ⟨ys, kept, _, _, hy, _, _, rfl⟩ := h
  obtain ⟨B, h1, h2, h3⟩ := f
  refine ⟨B, h1, h2, fun z hz n hn => ?_⟩
  obtain ⟨m, _, rfl⟩ := List.mem_map.mp ((srt_perm _).mem_iff.mp hz)
  obtain ⟨z, hz1, hz2⟩ := (hy n).mp (mem_namesN hn)
  exact h3 z hz1 n hz2
theorem IsLeast.len {zs rows : List (List Str)} (h : IsLeast zs rows) : rows.length ≤ zs.length := by
  obtain ⟨ys, kept, _, _, hy, kp, hk, rfl⟩ := h
  rw [(srt_perm _).length_eq, List.length_map]
  have := nodup_sub (B := zs.map (maskN ys)) (kp.imp fun {a b} hab => Nat.ne_of_lt hab) fun m hm => ((hk m).mp hm).1
  rw [List.length_map] at this
  exact this
theorem m_init {c : Cn} {rows : List (List Str)} {k : D → Prop} (f : FewOk rows) (h : ∀ ys, IsNames rows ys → k (ruleD c rows ys)) : p_Rule___init__ c (.tup (rows.map tupS)) k := by
  obtain ⟨B, hB, okB, hzB⟩ := f
  refine ⟨⟨_, rows, rfl, setsD_row (.inr rfl) (.inr rfl), B, hB, hzB⟩, fun d ⟨x', zs', ys, e, hs, ed, nd, so, hy⟩ => ?_⟩
  have e1 := (List.cons.inj e).1
  subst e1
  obtain rfl := setsD_inj (setsD_row (.inr rfl) (.inr rfl)) hs
  subst ed
  exact h ys ⟨nd, so, hy⟩
theorem m_least {x : D} {zs : List (List Str)} {F : List Str → D} {k : D → Prop} (hF : F = lstS ∨ F = tupS) (hx : x = .lst (zs.map F) ∨ x = .tup (zs.map F)) (f : FewOk zs) (hz : zs.length < 64) (h : ∀ rows, IsLeast zs rows → k (.tup (rows.map tupS))) : p_least_sets x k :=
  m_least_sets hF hx f hz fun ys kept a b c' d e => by
    have em : (kept.map fun m => tupS (namesN ys m)) = (kept.map (namesN ys)).map tupS := by rw [List.map_map]; rfl
    rw [em, srt_map]
    exact h _ ⟨ys, kept, a, b, c', d, e, rfl⟩
theorem m_of_sets {c : Cn} {x0 x : D} {zs : List (List Str)} {F : List Str → D} {k : D → Prop} (hF : F = lstS ∨ F = tupS) (hx : x = .lst (zs.map F) ∨ x = .tup (zs.map F)) (f : FewOk zs) (hz : zs.length < 64) (h : ∀ rows ys, IsLeast zs rows → IsNames rows ys → k (ruleD c rows ys)) : p_Rule_of_sets c x0 x k :=
  m_least hF hx f hz fun rows hr => m_init (hr.few f) fun ys hy => h rows ys hr hy
theorem m_fld_least {c : Cn} {rows : List (List Str)} {ys : List Str} {k : D → Prop} (h : k (.tup (rows.map tupS))) : W.fld [c.Rule] "least" (ruleD c rows ys) k := ⟨c.Rule, _, _, _, List.mem_singleton.mpr rfl, rfl, rfl, h⟩
theorem m_fld_names {c : Cn} {rows : List (List Str)} {ys : List Str} {k : D → Prop} (h : k (.tup (ys.map D.str))) : W.fld [c.Rule] "names" (ruleD c rows ys) k := ⟨c.Rule, _, _, _, List.mem_singleton.mpr rfl, rfl, rfl, h⟩
theorem m_call {c : Cn} {rows : List (List Str)} {ys b : List Str} {y : D} {k : D → Prop} (hy : Row y b) (hz : rows.length < sizeLine) (hs : ∀ z ∈ rows, z.length < sizeLine) (h : k (.bl (holdsN rows b))) : p_Rule___call__ c (ruleD c rows ys) y k :=
  m_fld_least (m_holds (.inr rfl) hy hz hs h)
theorem m_bool {c : Cn} {rows : List (List Str)} {ys : List Str} {k : D → Prop} (h : k (.bl (!rows.isEmpty))) : p_Rule___bool__ c (ruleD c rows ys) k := by
  refine m_fld_least ⟨_, rfl, ?_⟩
  have e : (rows.map tupS).isEmpty = rows.isEmpty := by cases rows <;> rfl
  rw [e]
  exact h
end Dw

/-! M05d: rules as texts. -/
namespace Dw
open PySem PySem.Spec PyProof.Rows L2
def joinC (z : List Str) : Str := Txt.join " , " z
/-- short enough to be joined -/
def Fit (z : List Str) : Prop := (z.map (·.length)).sum + z.length * 3 ≤ 100000 ∧ (joinC z).length ≤ 100000
def showS (z : List Str) : Str := if z.length = 0 then "always" else if z.length = 1 then z.headD "" else "all ( " ++ joinC z ++ " )"
def showR (rows : List (List Str)) : Str := if rows.length = 0 then "never" else if rows.length = 1 then (rows.map showS).headD "" else "any ( " ++ joinC (rows.map showS) ++ " )"
theorem q_cat {acc s : Str} {k : Str → Prop} (h1 : acc.length ≤ 500000) (h2 : s.length ≤ 400000) (h : k (acc ++ s)) : W.cat acc (.str s) k :=
  have e : (900000 : Nat) ≤ sizeLine := by decide
  ⟨s, rfl, by omega, by rw [Str.length_append]; omega, h⟩
theorem q_join1 {z : List Str} {y : D} {k : D → Prop} (hy : Row y z) (f : Fit z) (h : k (.str (joinC z))) : (∃ s, (D.str " , ") = .str s) ∧ W.join1 (.str " , ") [y] k := by
  refine ⟨⟨_, rfl⟩, " , ", z, y, rfl, rfl, hy, ?_, h⟩
  have := f.1
  show _ + z.length * 3 ≤ 16777216
  omega
theorem m_show_set {z : List Str} {k : D → Prop} (f : Fit z) (h : k (.str (showS z))) : p_show_set (tupS z) k := by
  unfold p_show_set
  unfold showS at h
  have el : (z.map D.str).length = z.length := by rw [List.length_map]
  refine q_lenT el (q_eqI (q_t (q_dec (fun h0 => ?_) fun h0 => ?_)))
  · rw [if_pos (by omega)] at h
    exact h
  · rw [if_neg (by omega)] at h
    refine q_lenT el (q_eqI (q_t (q_dec (fun h1 => ?_) fun h1 => ?_)))
    · rw [if_pos (by omega)] at h
      refine q_ixT (i := 0) (d := .str (z.headD "")) ?_ h
      cases z with
      | nil => exact absurd rfl h0
      | cons a l => rfl
    · rw [if_neg (by omega)] at h
      refine q_join1 (.inr rfl) f (q_cat (by decide) (by decide) (q_cat (by rw [Str.empty_append]; decide) (by have := f.2; omega) (q_cat ?_ (by decide) ?_)))
      · rw [Str.empty_append, Str.length_append]
        have := f.2
        show 6 + _ ≤ _
        omega
      · rw [Str.empty_append]
        exact h
/-- all that is shown of the rule is short -/
def FitR (rows : List (List Str)) : Prop := (∀ z ∈ rows, Fit z) ∧ Fit (rows.map showS) ∧ rows.length < sizeLine
theorem m_show_rule {c : Cn} {rows : List (List Str)} {ys : List Str} {k : D → Prop} (f : FitR rows) (h : k (.str (showR rows))) : p_show_rule c (ruleD c rows ys) k := by
  unfold p_show_rule
  unfold showR at h
  refine m_fld_least (q_seq (.inr rfl) (q_comp tupS (fun z => some (.str (showS z))) f.2.2 (fun z hz q hq => m_show_set (f.1 z hz) hq) ?_))
  rw [filterMap_some]
  have em : (rows.map fun z => D.str (showS z)) = (rows.map showS).map D.str := by rw [List.map_map]; rfl
  rw [em]
  have el : ((rows.map showS).map D.str).length = rows.length := by rw [List.length_map, List.length_map]
  refine q_lenL el (q_eqI (q_t (q_dec (fun h0 => ?_) fun h0 => ?_)))
  · rw [if_pos (by omega)] at h
    exact h
  · rw [if_neg (by omega)] at h
    refine q_lenL el (q_eqI (q_t (q_dec (fun h1 => ?_) fun h1 => ?_)))
    · rw [if_pos (by omega)] at h
      refine q_ixL (i := 0) (d := .str ((rows.map showS).headD "")) ?_ h
      cases rows with
      | nil => exact absurd rfl h0
      | cons a l => rfl
    · rw [if_neg (by omega)] at h
      refine q_join1 (.inl rfl) f.2.1 (q_cat (by decide) (by decide) (q_cat (by rw [Str.empty_append]; decide) (by have := f.2.1.2; omega) (q_cat ?_ (by decide) ?_)))
      · rw [Str.empty_append, Str.length_append]
        have := f.2.1.2
        show 6 + _ ≤ _
        omega
      · rw [Str.empty_append]
        exact h
end Dw

/-! M05e: rules as texts, the law's side. -/
namespace Dw
open PySem PySem.Spec PyProof.Rows L2
theorem q_neNilT {z : List Str} {k : D → Prop} (ok : Oks z) (h : k (.bl (!z.isEmpty))) : W.ne (tupS z) (.tup []) k := by
  refine .inr ⟨deepT (deep_strs ok).1 (deep_strs ok).2 (by decide), ⟨rfl, by decide⟩, ?_⟩
  cases z with
  | nil => exact h
  | cons s ss => exact h
theorem deep_rows {rows : List (List Str)} (ok : ∀ z ∈ rows, Oks z) : (D.tup (rows.map tupS)).deep := by
  refine deepT (n := 1) (fun x hx => ?_) (fun x hx => ?_) (by decide)
  · obtain ⟨z, hz, rfl⟩ := List.mem_map.mp hx
    exact plL_of (deep_strs (ok z hz)).1
  · obtain ⟨z, hz, rfl⟩ := List.mem_map.mp hx
    exact Nat.succ_le_succ (depthAll_le (deep_strs (ok z hz)).2)
theorem q_eqOne {rows : List (List Str)} {k : D → Prop} (ok : ∀ z ∈ rows, Oks z) (h : k (.bl (decide (rows = [[]])))) : W.eq (.tup (rows.map tupS)) (.tup [.tup []]) k := by
  refine .inr ⟨deep_rows ok, ⟨rfl, by decide⟩, ?_⟩
  have e : PyData.eqv (D.tup (rows.map tupS)).py (D.tup [.tup []]).py = decide (rows = [[]]) := by
    match rows with
    | [] => rfl
    | [[]] => rfl
    | [a :: l] =>
      rw [decide_eq_false (fun z => nomatch z)]
      rfl
    | [] :: b :: l =>
      rw [decide_eq_false (fun z => nomatch z)]
      rfl
    | (a :: r) :: b :: l =>
      rw [decide_eq_false (fun z => nomatch z)]
      rfl
  rw [e]
  exact h
theorem q_addS {a b : Str} {k : D → Prop} (h1 : a.length ≤ 400000) (h2 : b.length ≤ 400000) (h : k (.str (a ++ b))) : W.add (.str a) (.str b) k :=
  have e : (900000 : Nat) ≤ sizeLine := by decide
  ⟨by omega, h⟩
theorem m_law_text {rows : List (List Str)} {k : D → Prop} (ok : ∀ z ∈ rows, Oks z) (f : FitR rows) (okS : Oks (rows.map showS)) (one : [] ∈ rows → rows = [[]]) (h : k (.str (showR rows))) : p__law_text (.tup (rows.map tupS)) k := by
  unfold p__law_text
  refine q_seq (.inr rfl) (q_comp tupS (fun z => if (!z.isEmpty) then some (.str (showS z)) else none) f.2.2 (fun z hz q hq => ?_) ?_)
  · refine q_neNilT (ok z hz) (q_t ?_)
    cases e : z.isEmpty with
    | true =>
      rw [e] at hq
      exact q_F hq
    | false =>
      rw [e] at hq
      have hq : q (some (.str (showS z))) := hq
      refine q_T (q_join ?_)
      have zl : z.length ≠ 0 := fun z0 => by
        rw [List.length_eq_zero_iff.mp z0] at e
        cases e
      unfold showS at hq
      rw [if_neg zl] at hq
      refine q_lenT (by rw [List.length_map]) (q_eqI (q_t (q_dec (fun h1 => ?_) fun h1 => ?_)))
      · rw [if_pos (by omega)] at hq
        refine q_ixT (i := 0) (d := .str (z.headD "")) ?_ hq
        cases z with
        | nil => exact absurd rfl zl
        | cons a l => rfl
      · rw [if_neg (by omega)] at hq
        refine q_join1 (.inr rfl) (f.1 z hz) (q_addS (by decide) (by have := (f.1 z hz).2; omega) (q_addS ?_ (by decide) hq))
        rw [Str.length_append]
        have := (f.1 z hz).2
        show 6 + _ ≤ _
        omega
  · rw [filterMap_if]
    have em : ((rows.filter fun z => !z.isEmpty).map fun z => D.str (showS z)) = ((rows.filter fun z => !z.isEmpty).map showS).map D.str := by rw [List.map_map]; rfl
    rw [em]
    refine q_join (q_eqOne ok (q_t (q_dec (fun h1 => ?_) fun h1 => ?_)))
    · subst h1
      exact q_T (q_lenT (n := 1) rfl (q_ixL (i := 1) rfl h))
    · have none : ∀ z ∈ rows, (!z.isEmpty) = true := fun z hz => by
        cases z with
        | nil => exact absurd (one hz) h1
        | cons a l => rfl
      have ef : (rows.filter fun z => !z.isEmpty) = rows := List.filter_eq_self.mpr none
      rw [ef]
      refine q_eqNil okS (q_t ?_)
      cases er : rows with
      | nil =>
        subst er
        exact q_T (q_lenT (n := 0) rfl (q_ixL (i := 0) rfl h))
      | cons a l =>
        rw [← er]
        have e0 : (rows.map showS).isEmpty = false := by rw [er]; rfl
        rw [e0]
        refine q_F (q_join ?_)
        unfold showR at h
        have l0 : rows.length ≠ 0 := by rw [er]; exact Nat.succ_ne_zero _
        rw [if_neg l0] at h
        refine q_lenL (n := rows.length) (by rw [List.length_map, List.length_map]) (q_eqI (q_t (q_dec (fun h2 => ?_) fun h2 => ?_)))
        · rw [if_pos (by omega)] at h
          refine q_ixL (i := 0) (d := .str ((rows.map showS).headD "")) ?_ h
          rw [er]
          rfl
        · rw [if_neg (by omega)] at h
          refine q_join1 (.inl rfl) f.2.1 (q_addS (by decide) (by have := f.2.1.2; omega) (q_addS ?_ (by decide) h))
          rw [Str.length_append]
          have := f.2.1.2
          show 6 + _ ≤ _
          omega
end Dw

/-! M05f: rising rows of texts are told by what they hold. -/
namespace Dw
open PySem PySem.Spec PyProof.Rows L2
def ltS (a b : Str) : Prop := a.cps.toList < b.cps.toList
theorem str_ext {a b : Str} (h : a.cps.toList = b.cps.toList) : a = b := by
  cases a with
  | mk x =>
    cases b with
    | mk y =>
      have : x = y := Array.toList_inj.mp h
      rw [this]
theorem rise_pw : ∀ (x : Str) (l : List Str), risingS x l = true → (x :: l).Pairwise (fun a b => a.cps.toList ≤ b.cps.toList)
  | x, [], _ => List.pairwise_singleton _ _
  | x, y :: l, h => by
    rw [risingS.eq_2, Bool.and_eq_true, ltCps_eq] at h
    have hxy : x.cps.toList ≤ y.cps.toList := by
      have := h.1
      simpa using this
    have ih := rise_pw y l h.2
    refine List.pairwise_cons.mpr ⟨fun z hz => ?_, ih⟩
    rcases List.mem_cons.mp hz with rfl | hz
    · exact hxy
    · exact List.le_trans hxy ((List.pairwise_cons.mp ih).1 z hz)
theorem sorted_pw {l : List Str} (n : l.Nodup) (h : sortedS l = true) : l.Pairwise ltS := by
  have p : l.Pairwise (fun a b => a.cps.toList ≤ b.cps.toList) := by
    cases l with
    | nil => exact .nil
    | cons x l => exact rise_pw x l h
  refine List.Pairwise.imp (fun {a b} z => ?_) (p.and n)
  show a.cps.toList < b.cps.toList
  refine Classical.byContradiction fun q => z.2 (str_ext (List.le_antisymm z.1 ?_))
  exact List.not_lt.mp q
/-- rising rows with the same texts are one -/
theorem sorted_one {a b : List Str} (na : a.Nodup) (nb : b.Nodup) (sa : sortedS a = true) (sb : sortedS b = true) (h : ∀ n, n ∈ a ↔ n ∈ b) : a = b :=
  rise_eq (r := ltS) (fun x y h1 h2 => List.lt_asymm h1 h2) (sorted_pw na sa) (sorted_pw nb sb) h
/-- the names of the law's own making are the rule's -/
theorem m_names {rows : List (List Str)} {ys : List Str} {k : D → Prop} (f : FewOk rows) (hy : IsNames rows ys) (hz : rows.length < 1000) (hs : ∀ z ∈ rows, z.length < 1000) (hf : rows.flatten.length < 2900) (h : k (.lst (ys.map D.str))) :
    W.seq (.tup (rows.map tupS)) fun xs8 => xs8.length < sizeLine ∧ W.comp (fun v1 q2 => W.listOf [v1] fun v3 => q2 (some v3)) xs8 [] fun v7 => W.sumL v7 (D.lst []) fun v6 => W.sortedSetS v6 k := by
  have s1 : (100001 : Nat) < sizeLine := by decide
  have s2 : (3000 : Nat) < scanBound := by decide +kernel
  obtain ⟨B, hB, _, hzB⟩ := f
  refine q_seq (.inr rfl) (q_comp tupS (fun z => some (lstS z)) (by omega) (fun z _ q hq => hq) ?_)
  rw [filterMap_some]
  have em : rows.map lstS = (rows.map fun z => z.map D.str).map D.lst := by rw [List.map_map]; rfl
  refine ⟨rows.map fun z => z.map D.str, [], congrArg D.lst em, rfl, ?_, ?_⟩
  · have e : (rows.map fun z => z.map D.str).flatten = rows.flatten.map D.str := List.map_flatten.symm
    rw [e, List.length_map]
    show 0 + _ ≤ _
    omega
  · rw [List.nil_append]
    have e : (rows.map fun z => z.map D.str).flatten = rows.flatten.map D.str := List.map_flatten.symm
    rw [e]
    have mem : ∀ n, n ∈ rows.flatten ↔ ∃ z ∈ rows, n ∈ z := fun n => List.mem_flatten
    refine ⟨rows.flatten, .inl rfl, by omega, ⟨B, hB, fun n hn => ?_⟩, fun ys' nd so hm => ?_⟩
    · obtain ⟨z, hz1, hz2⟩ := (mem n).mp hn
      exact hzB z hz1 n hz2
    · have := sorted_one nd hy.1 so hy.2.1 fun n => by rw [hm n, mem n, hy.2.2 n]
      rw [this]
      exact h
end Dw

/-! M05g: the fields of a rule beside what is due. -/
namespace Dw
open PySem PySem.Spec PyProof.Rows L2
theorem q_repr {x : D} {k : D → Prop} (ok : ∃ n B, D.ok n B x ∧ n ≤ 60 ∧ B ≤ sizeLine) (h : k (.str x.shown)) : W.repr [x] k := ⟨x, rfl, ok, h⟩
theorem q_neBl {a b : Bool} {k : D → Prop} (h : k (.bl (!decide (a = b)))) : W.ne (.bl a) (.bl b) k := .inl ⟨_, _, rfl, rfl, rfl, by
  have e : decide (V.bl a = V.bl b) = decide (a = b) := by cases a <;> cases b <;> rfl
  rw [e]
  exact h⟩
theorem q_neNilR {rows : List (List Str)} {k : D → Prop} (ok : ∀ z ∈ rows, Oks z) (h : k (.bl (!rows.isEmpty))) : W.ne (.tup (rows.map tupS)) (.tup []) k := by
  refine .inr ⟨deep_rows ok, ⟨rfl, by decide⟩, ?_⟩
  cases rows with
  | nil => exact h
  | cons a l => exact h
theorem m_repr {c : Cn} {rows : List (List Str)} {ys : List Str} {k : D → Prop} (f : FitR rows) (hl : (showR rows).length ≤ 300000) (h : k (.str ("Rule(" ++ showR rows ++ ")"))) : p_Rule___repr__ c (ruleD c rows ys) k := by
  unfold p_Rule___repr__
  refine q_cat (by decide) (by decide) (m_show_rule f (q_cat (by rw [Str.empty_append]; decide) (by omega) (q_cat ?_ (by decide) ?_)))
  · rw [Str.empty_append, Str.length_append]
    show 5 + _ ≤ _
    omega
  · rw [Str.empty_append]
    exact h
/-- what is short and sound enough to be shown and asked -/
structure Good05 (rows : List (List Str)) (ys : List Str) : Prop where
  few : FewOk rows
  names : IsNames rows ys
  len : rows.length < 1000
  lens : ∀ z ∈ rows, z.length < 1000
  flat : rows.flatten.length < 2900
  fit : FitR rows
  shown : (showR rows).length ≤ 300000
  oks : Oks (rows.map showS)
  one : [] ∈ rows → rows = [[]]
  okR : ∃ n B, D.ok n B (.tup (rows.map tupS)) ∧ n ≤ 60 ∧ B ≤ sizeLine
  okY : ∃ n B, D.ok n B (.tup (ys.map D.str)) ∧ n ≤ 60 ∧ B ≤ sizeLine
theorem m_fields {c : Cn} {rows : List (List Str)} {ys : List Str} {k : D → Prop} (g : Good05 rows ys) (h : k (.bl true)) : p__law_fields_right c (ruleD c rows ys) (.tup (rows.map tupS)) k := by
  obtain ⟨B, hB, okB, hzB⟩ := g.few
  have oks : ∀ z ∈ rows, Oks z := fun z hz s hs => okB s (hzB z hz s hs)
  unfold p__law_fields_right
  refine m_names g.few g.names g.len g.lens g.flat ?_
  refine (?_ : (fun v4 => W.join _ _) (D.tup (ys.map D.str)))
  refine q_join (m_fld_least (q_repr g.okR (q_repr g.okR (q_neS (q_t (q_decN (fun q => absurd rfl q) fun _ => ?_))))))
  refine m_fld_names (q_repr g.okY (q_repr g.okY (q_neS (q_t (q_decN (fun q => absurd rfl q) fun _ => ?_)))))
  refine ⟨⟨_, _, rfl⟩, m_bool ⟨_, rfl, q_neNilR oks (q_neBl (q_t ?_))⟩⟩
  rw [decide_eq_true rfl]
  refine q_F (q_join (m_show_rule g.fit (m_law_text oks g.fit g.oks g.one (q_eqS (q_t ?_)))))
  rw [decide_eq_true rfl]
  refine q_T ⟨⟨_, _, rfl⟩, m_repr g.fit g.shown ⟨_, rfl, m_law_text oks g.fit g.oks g.one (q_addS (by decide) (by have := g.shown; omega) (q_addS ?_ (by decide) (q_eqS ?_)))⟩⟩
  · rw [Str.length_append]
    have := g.shown
    show 5 + _ ≤ _
    omega
  · rw [decide_eq_true rfl]
    exact h
end Dw

/-! M05h: the least of all subsets, as the law finds them. -/
namespace Dw
open PySem PySem.Spec PyProof.Rows L2
/-- a loop whose state is told by another -/
theorem q_forE {S T α : Type} {body : D → S → (S → Prop) → (S → Prop) → Prop} {p : S → Prop} (F : α → D) (e : T → S) (st : T → α → T) (R : T → Prop) : ∀ {l : List α} {t : T}, (∀ a ∈ l, ∀ t n b, R t → n (e (st t a)) → body (F a) (e t) n b) → (∀ a ∈ l, ∀ t, R t → R (st t a)) → R t → p (e (l.foldl st t)) → W.forL body (l.map F) (e t) p
  | [], t, _, _, _, h => h
  | a :: l, t, hb, hr, r, h =>
    hb a List.mem_cons_self t _ _ r (q_forE F e st R (fun b hm => hb b (List.mem_cons_of_mem _ hm)) (fun b hm => hr b (List.mem_cons_of_mem _ hm)) (hr a List.mem_cons_self t r) h)
theorem q_forCons {S : Type} {body : D → S → (S → Prop) → (S → Prop) → Prop} {p : S → Prop} {x : D} {xs : List D} {s : S} (h : body x s (fun s' => W.forL body xs s' p) p) : W.forL body (x :: xs) s p := h
theorem q_un2 {a b : D} {k : D → D → Prop} (h : k a b) : W.un2 (.tup [a, b]) k := h
theorem q_eqNilR {rows : List (List Str)} {k : D → Prop} (ok : ∀ z ∈ rows, Oks z) (h : k (.bl rows.isEmpty)) : W.eq (.lst (rows.map tupS)) (.lst []) k := by
  refine .inr ⟨deepL (n := 1) (fun x hx => ?_) (fun x hx => ?_) (by decide), ⟨rfl, by decide⟩, ?_⟩
  · obtain ⟨z, hz, rfl⟩ := List.mem_map.mp hx
    exact plL_of (deep_strs (ok z hz)).1
  · obtain ⟨z, hz, rfl⟩ := List.mem_map.mp hx
    exact Nat.succ_le_succ (depthAll_le (deep_strs (ok z hz)).2)
  · cases rows with
    | nil => exact h
    | cons a l => exact h
/-- one more subset looked at -/
def leastStep (acc : List (List Str)) (a : List Str × Bool) : List (List Str) := if a.2 && acc.all (fun o => !(o.all fun s => decide (s ∈ a.1))) then acc ++ [a.1] else acc
def leastOf (l : List (List Str × Bool)) : List (List Str) := l.foldl leastStep []
theorem zip_pairs (l : List (List Str × Bool)) : zipD (l.map fun a => tupS a.1) (l.map fun a => .bl a.2) = l.map fun a => .tup [tupS a.1, .bl a.2] := by
  unfold zipD
  induction l with
  | nil => rfl
  | cons a l ih =>
    rw [List.map_cons, List.map_cons, List.zipWith_cons_cons, ih]
    rfl
end Dw

/-! M05i: all subsets. -/
namespace Dw
open PySem PySem.Spec PyProof.Rows L2
theorem pl_nat {n : Nat} (h : n < 2 ^ 60) : (D.int (n : Int)).pl = true := by
  show decide ((n : Int).natAbs.log2 < 1920) = true
  rw [Int.natAbs_natCast, decide_eq_true_eq]
  by_cases z : n = 0
  · subst z
    decide
  · refine (Nat.log2_lt z).mpr (Nat.lt_of_lt_of_le h (Nat.pow_le_pow_right (by decide) (by decide)))
def subStep (f : List (List Str)) (n : Str) : List (List Str) := f ++ f.map (· ++ [n])
def subsOf (ns : List Str) : List (List Str) := ns.foldl subStep [[]]
theorem subs_len : ∀ (ns : List Str) (f : List (List Str)), (ns.foldl subStep f).length = f.length * 2 ^ ns.length
  | [], f => by simp
  | n :: ns, f => by
    rw [List.foldl_cons, subs_len ns, List.length_cons]
    unfold subStep
    rw [List.length_append, List.length_map, Nat.pow_succ, ← Nat.two_mul, Nat.mul_comm 2, Nat.mul_assoc, Nat.mul_comm 2]
theorem subs_mem : ∀ (ns : List Str) (f : List (List Str)) {z : List Str}, z ∈ ns.foldl subStep f → ∃ a ∈ f, ∃ b : List Str, b.Sublist ns ∧ z = a ++ b
  | [], f, z, h => ⟨z, h, [], List.Sublist.refl _, (List.append_nil z).symm⟩
  | n :: ns, f, z, h => by
    obtain ⟨a, ha, b, hb, rfl⟩ := subs_mem ns (subStep f n) h
    rcases List.mem_append.mp ha with ha | ha
    · exact ⟨a, ha, b, hb.cons _, rfl⟩
    · obtain ⟨a', ha', rfl⟩ := List.mem_map.mp ha
      exact ⟨a', ha', n :: b, hb.cons₂ _, by rw [List.append_assoc]; rfl⟩
/-- the law's loop over the names -/
theorem m_subs_loop {p : D → Prop} (ns : List Str) (f : List (List Str)) (hz : f.length * 2 ^ ns.length < 100000) (hs : ∀ z ∈ f, z.length + ns.length < 1000) (h : p (.lst ((ns.foldl subStep f).map tupS))) :
    W.forL (S := D) (fun y8 s9 n10 b11 => W.seq s9 fun xs17 => xs17.length < sizeLine ∧ W.comp (fun v12 q13 => W.add v12 (D.tup [y8]) fun v14 => q13 (some v14)) xs17 [] fun v16 => W.add s9 v16 fun v15 => n10 v15) (ns.map D.str) (.lst (f.map tupS)) p := by
  have s1 : (200001 : Nat) < sizeLine := by decide
  induction ns generalizing f with
  | nil => exact h
  | cons n ns ih =>
    rw [List.length_cons] at hz hs
    have two : f.length * 2 ^ (ns.length + 1) = (f.length + f.length) * 2 ^ ns.length := by
      rw [Nat.pow_succ, ← Nat.two_mul, Nat.mul_comm 2 f.length, Nat.mul_assoc, Nat.mul_comm 2]
    have pos : 0 < 2 ^ ns.length := Nat.pos_of_ne_zero (by simp)
    have lf : f.length + f.length < 100000 := by
      have := Nat.le_mul_of_pos_right (f.length + f.length) pos
      omega
    rw [List.map_cons]
    refine q_forCons (q_seq (.inl rfl) (q_comp tupS (fun z => some (tupS (z ++ [n]))) (by omega) (fun z hzm q hq => ?_) ?_))
    · refine (show (z.map D.str).length + [D.str n].length ≤ sizeLine ∧ q (some (.tup (z.map D.str ++ [.str n]))) from ⟨?_, ?_⟩)
      · rw [List.length_map, List.length_singleton]
        have := hs z hzm
        omega
      · have e : z.map D.str ++ [D.str n] = (z ++ [n]).map D.str := by rw [List.map_append]; rfl
        rw [e]
        exact hq
    · rw [filterMap_some]
      refine (show (f.map tupS).length + (f.map fun z => tupS (z ++ [n])).length ≤ sizeLine ∧ _ from ⟨?_, ?_⟩)
      · rw [List.length_map, List.length_map]
        omega
      · have e : f.map tupS ++ (f.map fun z => tupS (z ++ [n])) = (subStep f n).map tupS := by
          unfold subStep
          rw [List.map_append, List.map_map]
          rfl
        show W.forL _ _ (.lst (f.map tupS ++ (f.map fun z => tupS (z ++ [n])))) p
        rw [e]
        refine ih (subStep f n) ?_ ?_ h
        · unfold subStep
          rw [List.length_append, List.length_map]
          omega
        · intro z hzm
          rcases List.mem_append.mp hzm with hzm | hzm
          · have := hs z hzm
            omega
          · obtain ⟨z', hz', rfl⟩ := List.mem_map.mp hzm
            have := hs z' hz'
            rw [List.length_append, List.length_singleton]
            omega
end Dw

/-! M05j: all subsets in the law's order. -/
namespace Dw
open PySem PySem.Spec PyProof.Rows L2
/-- the place of a text in a row -/
def ixS : List Str → Str → Nat
  | [], _ => 0
  | a :: l, s => if a = s then 0 else ixS l s + 1
theorem ixS_get : ∀ {l : List Str} {s : Str}, s ∈ l → l[ixS l s]? = some s ∧ ixS l s < l.length
  | [], s, h => nomatch h
  | a :: l, s, h => by
    unfold ixS
    by_cases e : a = s
    · rw [if_pos e, e]
      exact ⟨rfl, Nat.succ_pos _⟩
    · rw [if_neg e]
      rcases List.mem_cons.mp h with z | z
      · exact absurd z.symm e
      · have := ixS_get z
        exact ⟨by rw [List.getElem?_cons_succ]; exact this.1, Nat.succ_lt_succ this.2⟩
theorem ixS_first : ∀ {l : List Str} {s : Str} {m : Nat}, m < ixS l s → l[m]? ≠ some s
  | [], s, m, h => nomatch h
  | a :: l, s, m, h => by
    unfold ixS at h
    by_cases e : a = s
    · rw [if_pos e] at h
      exact absurd h (Nat.not_lt_zero _)
    · rw [if_neg e] at h
      cases m with
      | zero =>
        rw [List.getElem?_cons_zero]
        exact fun z => e (Option.some.inj z)
      | succ m =>
        rw [List.getElem?_cons_succ]
        exact ixS_first (Nat.lt_of_succ_lt_succ h)
def place (ns z : List Str) : D := .tup [.int (z.length : Int), .lst (z.map fun s => natD (ixS ns s))]
def unP (ns : List Str) : D → List Str
  | .tup [_, .lst is] => is.map fun i => match i with
    | .int j => (ns[j.toNat]?).getD Str.empty
    | _ => Str.empty
  | _ => []
theorem unP_place {ns z : List Str} (h : ∀ s ∈ z, s ∈ ns) : unP ns (place ns z) = z := by
  show (z.map fun s => natD (ixS ns s)).map _ = z
  rw [List.map_map]
  refine (List.map_congr_left fun s hs => ?_).trans (List.map_id z)
  show (ns[((ixS ns s : Nat) : Int).toNat]?).getD Str.empty = s
  rw [Int.toNat_natCast, (ixS_get (h s hs)).1]
  rfl
theorem subs_in {ns z : List Str} (h : z ∈ subsOf ns) : z.Sublist ns := by
  obtain ⟨a, ha, b, hb, rfl⟩ := subs_mem ns [[]] h
  rw [List.mem_singleton.mp ha]
  exact hb
open PySem.W (AllAlike Sortable alike alikeAll) in
theorem alike_ints : ∀ (a b : List Int), alikeAll (a.map PyData.int) (b.map PyData.int) = true
  | [], [] => rfl
  | [], b :: bs => rfl
  | a :: as, [] => rfl
  | a :: as, b :: bs => by
    have := alike_ints as bs
    simp [List.map_cons, alikeAll, alike, this]
theorem place_py (ns z : List Str) : (place ns z).py = .tuple [.int (z.length : Int), .list ((z.map fun s => ((ixS ns s : Nat) : Int)).map PyData.int)] := by
  have e : D.pyL (z.map fun s => natD (ixS ns s)) = (z.map fun s => ((ixS ns s : Nat) : Int)).map PyData.int := by
    rw [pyL_map, List.map_map, List.map_map]
    rfl
  show PyData.tuple [.int (z.length : Int), .list (D.pyL (z.map fun s => natD (ixS ns s)))] = _
  rw [e]
open PySem.W (AllAlike Sortable alike alikeAll) in
theorem q_sortP {ns : List Str} {zs : List (List Str)} {k : D → Prop} (hz : ∀ z ∈ zs, ∀ s ∈ z, s ∈ ns) (hl : ∀ z ∈ zs, z.length < 1000) (hn : ns.length < 1000) (h : k (.lst (sortD (zs.map (place ns))))) : W.sortedA [.lst (zs.map (place ns))] k := by
  have big : (1000 : Nat) < 2 ^ 60 := by decide
  refine .inr ⟨zs.map (place ns), rfl, fun d hd => ?_, .inr ⟨?_, .inl ?_, ?_⟩, h⟩
  · obtain ⟨z, hzm, rfl⟩ := List.mem_map.mp hd
    show ((D.int (z.length : Int)).pl && ((D.lst (z.map fun s => natD (ixS ns s))).pl && true)) = true
    have h1 : (D.int (z.length : Int)).pl = true := pl_nat (by have := hl z hzm; omega)
    have h2 : (D.lst (z.map fun s => natD (ixS ns s))).pl = true := plL_of fun x hx => by
      obtain ⟨s, hs, rfl⟩ := List.mem_map.mp hx
      exact pl_nat (by have := (ixS_get (hz z hzm s hs)).2; omega)
    rw [h1, h2]
    rfl
  · intro d hd e he
    rw [pyL_map] at hd he
    obtain ⟨d', hd', rfl⟩ := List.mem_map.mp hd
    obtain ⟨e', he', rfl⟩ := List.mem_map.mp he
    obtain ⟨a, _, rfl⟩ := List.mem_map.mp hd'
    obtain ⟨b, _, rfl⟩ := List.mem_map.mp he'
    rw [place_py, place_py]
    have := alike_ints (a.map fun s => ((ixS ns s : Nat) : Int)) (b.map fun s => ((ixS ns s : Nat) : Int))
    simpa [alike, alikeAll] using this
  · intro d hd
    rw [pyL_map] at hd
    obtain ⟨d', hd', rfl⟩ := List.mem_map.mp hd
    obtain ⟨a, _, rfl⟩ := List.mem_map.mp hd'
    exact ⟨_, _, place_py ns a⟩
  · intro d hd
    obtain ⟨a, _, rfl⟩ := List.mem_map.mp hd
    have e : (D.lst (a.map fun s => natD (ixS ns s))).py.depth ≤ 1 := Nat.succ_le_succ (depthAll_le fun x hx => by
      obtain ⟨s, _, rfl⟩ := List.mem_map.mp hx
      exact Nat.le_refl _)
    have e2 : (place ns a).py.depth ≤ 2 := Nat.succ_le_succ (depthAll_le (xs := [D.int (a.length : Int), .lst (a.map fun s => natD (ixS ns s))]) fun x hx => by
      rcases List.mem_cons.mp hx with rfl | hx
      · exact Nat.zero_le _
      · rw [List.mem_singleton.mp hx]
        exact e)
    omega
theorem q_index {ns : List Str} {s : Str} {k : D → Prop} (hs : s ∈ ns) (h : k (natD (ixS ns s))) : (∃ xs, D.lst (ns.map D.str) = .lst xs) ∧ W.indexS (.lst (ns.map D.str)) (.str s) k :=
  ⟨⟨_, rfl⟩, ns, s, ixS ns s, rfl, rfl, (ixS_get hs).1, fun _ hm => ixS_first hm, h⟩
/-- all subsets, by size, then by their places -/
theorem m_subsets {ns : List Str} {k : D → Prop} (hn : ns.length ≤ 8) (h : ∀ rows : List (List Str), rows.Perm (subsOf ns) → rows.map (place ns) = sortD ((subsOf ns).map (place ns)) → k (.lst (rows.map tupS))) : p__law_subsets (.lst (ns.map fun n => .tup [.str n, .lst []])) k := by
  have s1 : (200001 : Nat) < sizeLine := by decide
  have pw : 2 ^ ns.length ≤ 256 := Nat.pow_le_pow_right (n := 2) (by decide) hn
  have sl : (subsOf ns).length ≤ 256 := by
    unfold subsOf
    rw [subs_len, List.length_singleton, Nat.one_mul]
    exact pw
  have sub : ∀ z ∈ subsOf ns, (∀ s ∈ z, s ∈ ns) ∧ z.length ≤ 8 := fun z hz => ⟨fun s hs => (subs_in hz).subset hs, Nat.le_trans (subs_in hz).length_le hn⟩
  unfold p__law_subsets
  refine q_seq (.inl rfl) (q_comp (fun n : Str => D.tup [.str n, .lst []]) (fun n => some (.str n)) (by omega) (fun n _ q hq => q_un2 hq) ?_)
  rw [filterMap_some]
  refine q_seq (.inl rfl) (m_subs_loop ns [[]] ?_ (fun z hz => by rw [List.mem_singleton.mp hz]; show 0 + _ < _; omega) ?_)
  · rw [List.length_singleton, Nat.one_mul]
    omega
  refine q_seq (xs := (subsOf ns).map tupS) (.inl rfl) (q_comp tupS (fun z => some (place ns z)) (by omega) (fun z hzm q hq => ?_) ?_)
  · refine q_lenT (by rw [List.length_map]) (q_seq (.inr rfl) (q_comp D.str (fun s => some (natD (ixS ns s))) (by have := (sub z hzm).2; omega) (fun s hs q2 h2 => q_index ((sub z hzm).1 s hs) h2) ?_))
    rw [filterMap_some]
    exact hq
  rw [filterMap_some]
  refine q_sortP (fun z hz => (sub z hz).1) (fun z hz => by have := (sub z hz).2; omega) (by omega) ?_
  have pm : (sortD ((subsOf ns).map (place ns))).Perm ((subsOf ns).map (place ns)) := List.mergeSort_perm _ _
  have er : (sortD ((subsOf ns).map (place ns))) = ((sortD ((subsOf ns).map (place ns))).map (unP ns)).map (place ns) := by
    rw [List.map_map]
    refine (List.map_id' _).symm.trans (List.map_congr_left fun x hx => ?_)
    obtain ⟨z, hz, rfl⟩ := List.mem_map.mp (pm.mem_iff.mp hx)
    show place ns z = place ns (unP ns (place ns z))
    rw [unP_place (sub z hz).1]
  have pr : ((sortD ((subsOf ns).map (place ns))).map (unP ns)).Perm (subsOf ns) := by
    have q := pm.map (unP ns)
    rw [List.map_map] at q
    refine q.trans (List.Perm.of_eq ?_)
    refine (List.map_congr_left fun z hz => ?_).trans (List.map_id _)
    exact unP_place (sub z hz).1
  generalize hrows : (sortD ((subsOf ns).map (place ns))).map (unP ns) = rows at er pr
  rw [er]
  refine q_seq (.inl rfl) (q_comp (place ns) (fun z => some (tupS z)) (by rw [pr.length_eq]; omega) (fun z hzm q hq => ?_) ?_)
  · have hz := sub z (pr.mem_iff.mp hzm)
    refine q_un2 (q_seq (.inl rfl) (q_comp (fun s => natD (ixS ns s)) (fun s => some (.str s)) (by omega) (fun s hs q2 h2 => ?_) ?_))
    · refine q_ixL (i := ixS ns s) (d := .str s) ?_ h2
      rw [List.getElem?_map, (ixS_get (hz.1 s hs)).1]
      rfl
    · rw [filterMap_some]
      exact hq
  · rw [filterMap_some]
    exact h rows pr er.symm
end Dw

/-! Least2: the least of rows, told as sublists of one row. Plain Lean. -/
namespace Dw
section
variable {α : Type} [DecidableEq α]
/-- a lies within b -/
def subL (a b : List α) : Bool := a.all fun s => decide (s ∈ b)
theorem subL_iff {a b : List α} : subL a b = true ↔ ∀ n ∈ a, n ∈ b := by
  unfold subL
  rw [List.all_eq_true]
  exact forall_congr' fun n => forall_congr' fun _ => by rw [decide_eq_true_eq]
theorem subL_refl (a : List α) : subL a a = true := subL_iff.mpr fun _ h => h
theorem subL_trans (a b c : List α) (h : subL a b = true) (g : subL b c = true) : subL a c = true := subL_iff.mpr fun n hn => subL_iff.mp g n (subL_iff.mp h n hn)
/-- what of ns is in z -/
def canon (ns z : List α) : List α := ns.filter fun n => decide (n ∈ z)
theorem mem_canon {ns z : List α} {n : α} : n ∈ canon ns z ↔ n ∈ ns ∧ n ∈ z := by
  unfold canon
  rw [List.mem_filter, decide_eq_true_eq]
theorem canon_sub (ns z : List α) : (canon ns z).Sublist ns := List.filter_sublist
theorem canon_of {ns z : List α} (nd : ns.Nodup) (h : z.Sublist ns) : canon ns z = z := by
  induction h with
  | slnil => rfl
  | @cons z ns a h ih =>
    have n' := List.nodup_cons.mp nd
    unfold canon
    rw [List.filter_cons_of_neg (by rw [decide_eq_true_eq]; exact fun q => n'.1 (h.subset q))]
    exact ih n'.2
  | @cons_cons z ns a h ih =>
    have n' := List.nodup_cons.mp nd
    unfold canon
    rw [List.filter_cons_of_pos (by rw [decide_eq_true_eq]; exact List.mem_cons_self)]
    refine congrArg (a :: ·) ((List.filter_congr fun s hs => ?_).trans (ih n'.2))
    refine decide_eq_decide.mpr ⟨fun q => ?_, fun q => List.mem_cons_of_mem _ q⟩
    rcases List.mem_cons.mp q with rfl | q
    · exact absurd hs n'.1
    · exact q
theorem canon_congr {ns a b : List α} (h : ∀ n, n ∈ a ↔ n ∈ b) : canon ns a = canon ns b := List.filter_congr fun n _ => decide_eq_decide.mpr (h n)
/-- sublists with the same members are one -/
theorem sub_one {ns a b : List α} (nd : ns.Nodup) (ha : a.Sublist ns) (hb : b.Sublist ns) (h : ∀ n, n ∈ a ↔ n ∈ b) : a = b := by
  rw [← canon_of nd ha, ← canon_of nd hb]
  exact canon_congr h
/-- one of the least of the sets, as a sublist of ns -/
def LeastIn (ns : List α) (zs : List (List α)) (z : List α) : Prop := ∃ z0 ∈ zs, z = canon ns z0 ∧ ∀ z1 ∈ zs, (∀ n ∈ z1, n ∈ z0) → ∀ n ∈ z0, n ∈ z1
theorem mem_kept {r : α → α → Prop} (asym : ∀ x y, r x y → r y x → False) {ns ys : List α} {zs : List (List α)} {kept : List Nat} (py : ys.Pairwise r) (pn : ns.Pairwise r) (hy : ∀ n, n ∈ ys ↔ ∃ z ∈ zs, n ∈ z) (hz : ∀ z ∈ zs, ∀ n ∈ z, n ∈ ns)
    (hk : ∀ m, m ∈ kept ↔ Lst within (zs.map (maskN ys)) m) (z : List α) : z ∈ kept.map (namesN ys) ↔ LeastIn ns zs z := by
  have key : ∀ z0 ∈ zs, namesN ys (maskN ys z0) = canon ns z0 := fun z0 h0 => by
    rw [namesN_mask]
    refine rise_eq asym (py.filter _) (pn.filter _) fun n => ?_
    rw [List.mem_filter, decide_eq_true_eq, mem_canon]
    exact ⟨fun h => ⟨hz z0 h0 n h.2, h.2⟩, fun h => ⟨(hy n).mpr ⟨z0, h0, h.2⟩, h.2⟩⟩
  have wi : ∀ z1 ∈ zs, ∀ z0 : List α, within (maskN ys z1) (maskN ys z0) = true ↔ ∀ n ∈ z1, n ∈ z0 := fun z1 h1 z0 => by
    rw [within_mask]
    exact ⟨fun h n hn => h n ((hy n).mpr ⟨z1, h1, hn⟩) hn, fun h n _ hn => h n hn⟩
  constructor
  · intro h
    obtain ⟨m, hm, rfl⟩ := List.mem_map.mp h
    obtain ⟨h1, h2⟩ := (hk m).mp hm
    obtain ⟨z0, h0, rfl⟩ := List.mem_map.mp h1
    refine ⟨z0, h0, key z0 h0, fun z1 hz1 hw => ?_⟩
    have := h2 _ (List.mem_map.mpr ⟨z1, hz1, rfl⟩) ((wi z1 hz1 z0).mpr hw)
    exact (wi z0 h0 z1).mp (by rw [this]; exact within_refl _)
  · rintro ⟨z0, h0, rfl, hm⟩
    refine List.mem_map.mpr ⟨maskN ys z0, (hk _).mpr ⟨List.mem_map.mpr ⟨z0, h0, rfl⟩, fun k hk' hw => ?_⟩, key z0 h0⟩
    obtain ⟨z1, h1, rfl⟩ := List.mem_map.mp hk'
    have a := hm z1 h1 ((wi z1 h1 z0).mp hw)
    have b := within_le ((wi z0 h0 z1).mpr a)
    have c := within_le hw
    omega
/-- some set lies within z -/
def anyIn (zs : List (List α)) (z : List α) : Bool := zs.any fun y => subL y z
theorem mem_good {ns : List α} (nd : ns.Nodup) {every zs : List (List α)} (he : ∀ z, z ∈ every ↔ z.Sublist ns) (pe : every.Pairwise fun a b => subL b a = false) {g : List α → Bool} (hg : ∀ z ∈ every, g z = anyIn zs z) (hz : ∀ z ∈ zs, ∀ n ∈ z, n ∈ ns) :
    (keep subL [] (every.filter g)).Sublist every ∧ ∀ z, z ∈ keep subL [] (every.filter g) ↔ LeastIn ns zs z := by
  obtain ⟨sl, ks⟩ := keep_spec (sub := subL) subL_refl subL_trans (pe.filter g)
  refine ⟨sl.trans List.filter_sublist, fun z => (ks z).trans ?_⟩
  have mg : ∀ z, z ∈ every.filter g ↔ z.Sublist ns ∧ ∃ z0 ∈ zs, ∀ n ∈ z0, n ∈ z := fun z => by
    rw [List.mem_filter]
    constructor
    · rintro ⟨h1, h2⟩
      rw [hg z h1] at h2
      obtain ⟨z0, h0, hs⟩ := List.any_eq_true.mp h2
      exact ⟨(he z).mp h1, z0, h0, subL_iff.mp hs⟩
    · rintro ⟨h1, z0, h0, hs⟩
      have h1 := (he z).mpr h1
      refine ⟨h1, ?_⟩
      rw [hg z h1]
      exact List.any_eq_true.mpr ⟨z0, h0, subL_iff.mpr hs⟩
  have cg : ∀ z0 ∈ zs, canon ns z0 ∈ every.filter g := fun z0 h0 => (mg _).mpr ⟨canon_sub _ _, z0, h0, fun n hn => mem_canon.mpr ⟨hz z0 h0 n hn, hn⟩⟩
  constructor
  · rintro ⟨h1, h2⟩
    obtain ⟨hs, z0, h0, hw⟩ := (mg z).mp h1
    have e : canon ns z0 = z := h2 _ (cg z0 h0) (subL_iff.mpr fun n hn => hw n (mem_canon.mp hn).2)
    refine ⟨z0, h0, e.symm, fun z1 hz1 h10 n hn => ?_⟩
    have e1 : canon ns z1 = z := h2 _ (cg z1 hz1) (subL_iff.mpr fun n hn => hw n (h10 n (mem_canon.mp hn).2))
    have : n ∈ canon ns z1 := by
      rw [e1]
      exact hw n hn
    exact (mem_canon.mp this).2
  · rintro ⟨z0, h0, rfl, hm⟩
    refine ⟨cg z0 h0, fun k hk hw => ?_⟩
    obtain ⟨ks', z1, h1, h1k⟩ := (mg k).mp hk
    have kz0 : ∀ n ∈ k, n ∈ z0 := fun n hn => (mem_canon.mp (subL_iff.mp hw n hn)).2
    have a := hm z1 h1 fun n hn => kz0 n (h1k n hn)
    refine sub_one nd ks' (canon_sub _ _) fun n => ⟨fun hn => subL_iff.mp hw n hn, fun hn => h1k n (a n (mem_canon.mp hn).2)⟩
/-- every set contains one of the least -/
theorem least_below {ns : List α} {zs : List (List α)} (hz : ∀ z ∈ zs, ∀ n ∈ z, n ∈ ns) : ∀ (b : Nat) (z : List α), z ∈ zs → (canon ns z).length ≤ b → ∃ y, LeastIn ns zs y ∧ ∀ n ∈ y, n ∈ z
  | b, z, hzm, hb => by
    by_cases h : ∀ z1 ∈ zs, (∀ n ∈ z1, n ∈ z) → ∀ n ∈ z, n ∈ z1
    · exact ⟨canon ns z, ⟨z, hzm, rfl, h⟩, fun n hn => (mem_canon.mp hn).2⟩
    · have h : ∃ z1 ∈ zs, (∀ n ∈ z1, n ∈ z) ∧ ∃ n ∈ z, n ∉ z1 := by
        refine Classical.byContradiction fun q => h fun z1 h1 h2 n hn => Classical.byContradiction fun w => q ⟨z1, h1, h2, n, hn, w⟩
      obtain ⟨z1, h1, h2, n, hn, hn1⟩ := h
      have lt : (canon ns z1).length < (canon ns z).length := by
        have sl : (canon ns z1).Sublist (canon ns z) := by
          have e : canon ns z1 = (canon ns z).filter fun n => decide (n ∈ z1) := by
            unfold canon
            rw [List.filter_filter]
            refine List.filter_congr fun m _ => ?_
            by_cases q : m ∈ z1
            · simp [q, h2 m q]
            · simp [q]
          rw [e]
          exact List.filter_sublist
        refine Nat.lt_of_le_of_ne sl.length_le fun e => ?_
        have e2 := sl.eq_of_length e
        have : n ∈ canon ns z1 := by
          rw [e2]
          exact mem_canon.mpr ⟨hz z hzm n hn, hn⟩
        exact hn1 (mem_canon.mp this).2
      match b, hb with
      | 0, hb => omega
      | b + 1, hb =>
        obtain ⟨y, hy1, hy2⟩ := least_below hz b z1 h1 (by omega)
        exact ⟨y, hy1, fun n hn => h2 n (hy2 n hn)⟩
/-- the least hold exactly where the sets do -/
theorem any_least {ns : List α} {zs rows : List (List α)} (hz : ∀ z ∈ zs, ∀ n ∈ z, n ∈ ns) (hr : ∀ y, y ∈ rows ↔ LeastIn ns zs y) (p : List α) : anyIn rows p = anyIn zs p := by
  rw [Bool.eq_iff_iff]
  unfold anyIn
  rw [List.any_eq_true, List.any_eq_true]
  constructor
  · rintro ⟨y, hy, hs⟩
    obtain ⟨z0, h0, rfl, _⟩ := (hr y).mp hy
    exact ⟨z0, h0, subL_iff.mpr fun n hn => subL_iff.mp hs n (mem_canon.mpr ⟨hz z0 h0 n hn, hn⟩)⟩
  · rintro ⟨z, hzm, hs⟩
    obtain ⟨y, hy1, hy2⟩ := least_below hz _ z hzm (Nat.le_refl _)
    exact ⟨y, (hr y).mpr hy1, subL_iff.mpr fun n hn => subL_iff.mp hs n (hy2 n hn)⟩
end
end Dw

/-! OrdR: the orders of rows of texts. -/
namespace Dw
open PySem PySem.W PyProof.Rows
/-- the texts of a row, as rows of numbers -/
def keyR (z : List Str) : List (List Nat) := z.map fun s => s.cps.toList
/-- shorter, or as long and less by its texts -/
def ltR (a b : List Str) : Prop := a.length < b.length ∨ (a.length = b.length ∧ keyR a < keyR b)
theorem ltR_asym (a b : List Str) (h : ltR a b) (g : ltR b a) : False := by
  rcases h with h | h <;> rcases g with g | g
  · omega
  · omega
  · omega
  · exact List.lt_asymm h.2 g.2
theorem keyR_inj {a b : List Str} (h : keyR a = keyR b) : a = b := by
  refine List.map_inj_right (fun x y e => ?_) |>.mp h
  cases x with
  | mk x =>
    cases y with
    | mk y =>
      have : x = y := Array.toList_inj.mp e
      rw [this]
theorem rowLt_strs : ∀ xs ys : List Str, rowLt (xs.map .str) (ys.map .str) = decide (keyR xs < keyR ys)
  | [], [] => by
    have e : rowLt [] [] = false := lex_irrefl _
    simp [e, keyR]
  | [], y :: ys => by
    have e : rowLt [] (PyData.str y :: ys.map .str) = true := by
      unfold rowLt
      rw [PySem.W.toks_all_cons]
      simp only [keyToksAll]
      rw [lex_diff (O := itemOrd) (by simp)]
      rfl
    simpa [keyR] using e
  | x :: xs, [] => by
    have e : rowLt (PyData.str x :: xs.map .str) [] = false := by
      unfold rowLt
      rw [PySem.W.toks_all_cons]
      simp only [PySem.W.keyToksAll]
      rw [lex_diff (O := itemOrd) (by simp)]
      rfl
    simpa [keyR] using e
  | x :: xs, y :: ys => by
    have e : rowLt (PyData.str x :: xs.map .str) (PyData.str y :: ys.map .str) = if x = y then rowLt (xs.map .str) (ys.map .str) else decide (x.cps.toList < y.cps.toList) := by
      unfold rowLt
      rw [PySem.W.dataLt_cons (by simp [alike]), PySem.W.dataLt_str]
      simp only [PyData.eqv, beq_iff_eq]
    show rowLt (PyData.str x :: xs.map .str) (PyData.str y :: ys.map .str) = _
    rw [e]
    by_cases h : x = y
    · rw [if_pos h, rowLt_strs xs ys, h]
      refine decide_eq_decide.mpr ?_
      simp [keyR, List.cons_lt_cons_iff]
    · have h' : x.cps.toList ≠ y.cps.toList := fun q => h (List.cons.inj (keyR_inj (a := [x]) (b := [y]) (by show [x.cps.toList] = [y.cps.toList]; rw [q]))).1
      rw [if_neg h]
      refine decide_eq_decide.mpr ?_
      simp [keyR, h', List.cons_lt_cons_iff]
theorem lt_tupS (a b : List Str) : dataLt (.tuple (a.map .str)) (.tuple (b.map .str)) = decide (keyR a < keyR b) := by
  rw [PySem.W.dataLt_tuple]
  exact rowLt_strs a b
theorem alike_ints' : ∀ (a b : List Int), alikeAll (a.map PyData.int) (b.map PyData.int) = true
  | [], [] => rfl
  | [], b :: bs => rfl
  | a :: as, [] => rfl
  | a :: as, b :: bs => by
    have := alike_ints' as bs
    simp [List.map_cons, alikeAll, alike, this]
theorem eqv_ints : ∀ (a b : List Int), PyData.eqvAll (a.map PyData.int) (b.map PyData.int) = true → a = b
  | [], [], _ => rfl
  | [], b :: bs, h => by cases h
  | a :: as, [], h => by cases h
  | a :: as, b :: bs, h => by
    rw [List.map_cons, List.map_cons, PySem.W.eqv_all_cons, Bool.and_eq_true] at h
    have h1 : a = b := by simpa [PyData.eqv] using h.1
    rw [h1, eqv_ints as bs h.2]
theorem lt_place {la lb : Int} {a b : List Int} (h : lb < la ∨ (lb = la ∧ b < a)) : dataLt (.tuple [.int lb, .list (b.map .int)]) (.tuple [.int la, .list (a.map .int)]) = true := by
  rw [PySem.W.dataLt_pair (by simp [alike]) (by simp [alike, alike_ints']), PySem.W.dataLt_int, PySem.W.dataLt_list]
  have er : PyProof.Rows.lexLt itemOrd (PySem.W.keyToksAll (b.map .int)) (PySem.W.keyToksAll (a.map .int)) = decide (b < a) := PySem.W.dataLt_ints b a
  rw [er]
  rcases h with h | ⟨h1, h2⟩
  · have e : PyData.eqv (.int lb) (.int la) = false := by
      simp only [PyData.eqv]
      exact beq_false_of_ne (by omega)
    rw [e, if_neg (by decide)]
    exact decide_eq_true h
  · subst h1
    have e : PyData.eqv (.int lb) (.int lb) = true := by simp [PyData.eqv]
    have e2 : PyData.eqv (.list (b.map .int)) (.list (a.map .int)) = false := by
      rw [Bool.eq_false_iff]
      intro q
      have : PyData.eqvAll (b.map PyData.int) (a.map PyData.int) = true := by
        simpa [PyData.eqv] using q
      have := eqv_ints _ _ this
      subst this
      exact List.lt_irrefl b h2
    rw [e, if_pos rfl, e2, if_neg (by decide)]
    exact decide_eq_true h2
/-! stable sorting -/
theorem two_sub {α : Type} {x y : α} : ∀ {l : List α}, x ∈ l → y ∈ l → x ≠ y → [x, y].Sublist l ∨ [y, x].Sublist l
  | a :: l, hx, hy, ne => by
    rcases List.mem_cons.mp hx with ex | hx' <;> rcases List.mem_cons.mp hy with ey | hy'
    · exact absurd (ex.trans ey.symm) ne
    · subst ex
      exact .inl (List.Sublist.cons_cons _ (List.singleton_sublist.mpr hy'))
    · subst ey
      exact .inr (List.Sublist.cons_cons _ (List.singleton_sublist.mpr hx'))
    · exact (two_sub hx' hy' ne).imp (List.Sublist.cons _) (List.Sublist.cons _)
theorem not_both {α : Type} {x y : α} : ∀ {l : List α}, l.Nodup → [x, y].Sublist l → [y, x].Sublist l → False
  | a :: l, nd, h1, h2 => by
    have n' := List.nodup_cons.mp nd
    cases h1 with
    | cons _ h1 =>
      cases h2 with
      | cons _ h2 => exact not_both n'.2 h1 h2
      | cons_cons _ h2 => exact n'.1 (h1.subset (by simp))
    | cons_cons _ h1 =>
      cases h2 with
      | cons _ h2 => exact n'.1 (h2.subset (by simp))
      | cons_cons _ h2 => exact n'.1 (h1.subset (by simp))
end Dw

/-! M05k: the two orders are one; the law's least ones are the rule's. -/
namespace Dw
open PySem PySem.Spec PyProof.Rows L2
open PySem.W (dataLe dataLt)
theorem tot {α : Type} {le : α → α → Bool} (h : ∀ a b, le a b = true ∨ le b a = true) (a b : α) : (le a b || le b a) = true := by
  rw [Bool.or_eq_true]
  exact h a b
theorem tupS_inj {a b : List Str} (e : tupS a = tupS b) : a = b := by rw [← unT_tupS a, ← unT_tupS b, e]
theorem le_tupS (a b : List Str) : dataLe false D.py (tupS a) (tupS b) = !decide (keyR b < keyR a) := by
  show (!dataLt (tupS b).py (tupS a).py) = _
  rw [tupS_py, tupS_py, lt_tupS]
theorem key_tri {a b : List Str} (h1 : ¬ keyR a < keyR b) (h2 : ¬ keyR b < keyR a) : a = b :=
  keyR_inj (List.le_antisymm (List.not_lt.mp h2) (List.not_lt.mp h1))
theorem srt_rise {zs : List (List Str)} (nd : zs.Nodup) : (srt zs).Pairwise ltR := by
  have nd1 : (srt zs).Nodup := (srt_perm zs).nodup_iff.mpr nd
  have ndt : (zs.map tupS).Nodup := List.pairwise_map.mpr (nd.imp fun h e => h (tupS_inj e))
  have T1 := PySem.W.sortLe_total (PyProof.Rows.listOrd PyProof.Rows.itemOrd) false (fun d : D => PySem.W.keyToks d.py)
  have T2 := PySem.W.sortLe_total (PyProof.Rows.listOrd PyProof.Rows.itemOrd) false (fun d : D => PySem.W.keyToks (PyData.int (d.tlen : Int)))
  have p1 : (sortD (zs.map tupS)).Pairwise (fun a b => dataLe false D.py a b = true) := List.pairwise_mergeSort T1.trans (tot T1.total) _
  have p2 : (sortL (sortD (zs.map tupS))).Pairwise (fun a b => dataLe false (fun d : D => PyData.int (d.tlen : Int)) a b = true) := List.pairwise_mergeSort T2.trans (tot T2.total) _
  have tl : ∀ a b : D, dataLe false (fun d : D => PyData.int (d.tlen : Int)) a b = decide ((a.tlen : Int) ≤ b.tlen) := fun a b => congrFun (congrFun (PySem.W.dataLe_int fun d : D => (d.tlen : Int)) a) b
  have tt : ∀ a : List Str, (tupS a).tlen = a.length := fun a => List.length_map ..
  refine List.pairwise_iff_forall_sublist.mpr fun {a b} hab => ?_
  have hab2 : [tupS a, tupS b].Sublist (sortL (sortD (zs.map tupS))) := by
    rw [srt_map]
    exact hab.map tupS
  have hl := List.pairwise_iff_forall_sublist.mp p2 hab2
  rw [tl, tt, tt, decide_eq_true_eq] at hl
  by_cases hl2 : a.length = b.length
  · refine .inr ⟨hl2, Classical.byContradiction fun q => ?_⟩
    have ne : a ≠ b := fun e => by
      have := nd1.sublist hab
      rw [e] at this
      exact (List.nodup_cons.mp this).1 List.mem_cons_self
    have mm : ∀ x, [x].Sublist [a, b] → tupS x ∈ sortD (zs.map tupS) := fun x hx => mem_sortD.mpr (List.mem_map.mpr ⟨x, (srt_perm zs).mem_iff.mp ((hx.trans hab).subset List.mem_cons_self), rfl⟩)
    have ha := mm a (List.singleton_sublist.mpr List.mem_cons_self)
    have hb := mm b (List.singleton_sublist.mpr (List.mem_cons_of_mem _ List.mem_cons_self))
    have hba : [tupS b, tupS a].Sublist (sortD (zs.map tupS)) := by
      rcases two_sub ha hb (fun e => ne (tupS_inj e)) with h | h
      · have h := List.pairwise_iff_forall_sublist.mp p1 h
        rw [le_tupS, Bool.not_eq_true', decide_eq_false_iff_not] at h
        exact absurd (key_tri q h) ne
      · exact h
    have le2 : dataLe false (fun d : D => PyData.int (d.tlen : Int)) (tupS b) (tupS a) = true := by
      rw [tl, tt, tt, decide_eq_true_eq]
      omega
    have h := List.pair_sublist_mergeSort T2.trans (tot T2.total) le2 hba
    have h2 : [b, a].Sublist (srt zs) := by
      have := h.map unT
      rw [List.map_cons, List.map_cons, unT_tupS, unT_tupS] at this
      exact this
    exact not_both nd1 hab h2
  · left
    omega
theorem ltS_irr (a : Str) : ¬ ltS a a := List.lt_irrefl _
theorem ltS_asym (x y : Str) (h1 : ltS x y) (h2 : ltS y x) : False := List.lt_asymm h1 h2
theorem nodup_pw {ns : List Str} (pw : ns.Pairwise ltS) : ns.Nodup := pw.imp fun {a b} h e => by
  rw [e] at h
  exact ltS_irr _ h
theorem ix_mono {ns : List Str} (pw : ns.Pairwise ltS) {s t : Str} (hs : s ∈ ns) (ht : t ∈ ns) : ixS ns s < ixS ns t ↔ ltS s t := by
  obtain ⟨s1, s2⟩ := ixS_get hs
  obtain ⟨t1, t2⟩ := ixS_get ht
  have up : ∀ {x y : Str} {i j : Nat}, ns[i]? = some x → ns[j]? = some y → i < j → ltS x y := fun {x y i j} hx hy hij => by
    obtain ⟨i1, rfl⟩ := List.getElem?_eq_some_iff.mp hx
    obtain ⟨j1, rfl⟩ := List.getElem?_eq_some_iff.mp hy
    exact List.pairwise_iff_getElem.mp pw i j i1 j1 hij
  constructor
  · exact up s1 t1
  · intro h
    rcases Nat.lt_trichotomy (ixS ns s) (ixS ns t) with z | z | z
    · exact z
    · rw [z, t1] at s1
      cases s1
      exact absurd h (ltS_irr _)
    · exact (ltS_asym _ _ h (up t1 s1 z)).elim
def ixs (ns z : List Str) : List Int := z.map fun s => ((ixS ns s : Nat) : Int)
theorem ixs_lt {ns : List Str} (pw : ns.Pairwise ltS) : ∀ {a b : List Str}, (∀ s ∈ a, s ∈ ns) → (∀ s ∈ b, s ∈ ns) → keyR a < keyR b → ixs ns a < ixs ns b
  | [], [], _, _, h => absurd h (List.lt_irrefl _)
  | [], b :: bs, _, _, _ => by
    show ([] : List Int) < _ :: _
    exact List.nil_lt_cons _ _
  | a :: as, [], _, _, h => by
    have h : a.cps.toList :: keyR as < [] := h
    exact absurd h (List.not_lt_nil _)
  | a :: as, b :: bs, ha, hb, h => by
    have h : a.cps.toList :: keyR as < b.cps.toList :: keyR bs := h
    show ((ixS ns a : Nat) : Int) :: ixs ns as < ((ixS ns b : Nat) : Int) :: ixs ns bs
    rw [List.cons_lt_cons_iff] at h ⊢
    rcases h with h | ⟨h1, h2⟩
    · left
      have := (ix_mono pw (ha a List.mem_cons_self) (hb b List.mem_cons_self)).mpr h
      omega
    · right
      refine ⟨?_, ixs_lt pw (fun s hs => ha s (List.mem_cons_of_mem _ hs)) (fun s hs => hb s (List.mem_cons_of_mem _ hs)) h2⟩
      rw [str_ext h1]
theorem subs_in2 : ∀ (ns : List Str) (f : List (List Str)) {a b : List Str}, a ∈ f → b.Sublist ns → a ++ b ∈ ns.foldl subStep f
  | [], f, a, b, ha, hb => by
    rw [List.sublist_nil.mp hb, List.append_nil]
    exact ha
  | n :: ns, f, a, b, ha, hb => by
    rw [List.foldl_cons]
    cases hb with
    | cons _ hb => exact subs_in2 ns (subStep f n) (List.mem_append_left _ ha) hb
    | @cons_cons b' _ _ hb =>
      have e : a ++ n :: b' = (a ++ [n]) ++ b' := by simp
      rw [e]
      exact subs_in2 ns (subStep f n) (List.mem_append_right _ (List.mem_map.mpr ⟨a, ha, rfl⟩)) hb
theorem subs_iff {ns z : List Str} : z ∈ subsOf ns ↔ z.Sublist ns := ⟨subs_in, fun h => subs_in2 ns [[]] (a := []) List.mem_cons_self h⟩
theorem subs_nodup : ∀ (ns : List Str) (f : List (List Str)), ns.Nodup → f.Nodup → (∀ z ∈ f, ∀ n ∈ ns, n ∉ z) → (ns.foldl subStep f).Nodup
  | [], f, _, h, _ => h
  | n :: ns, f, nd, h, hz => by
    have n' := List.nodup_cons.mp nd
    rw [List.foldl_cons]
    refine subs_nodup ns (subStep f n) n'.2 ?_ fun z hzm m hm q => ?_
    · unfold subStep
      refine List.nodup_append.mpr ⟨h, List.pairwise_map.mpr (h.imp fun q e => q (List.append_cancel_right e)), fun a ha b hb e => ?_⟩
      subst e
      obtain ⟨c, _, rfl⟩ := List.mem_map.mp hb
      exact hz _ ha n List.mem_cons_self (by simp)
    · rcases List.mem_append.mp hzm with hzm | hzm
      · exact hz z hzm m (List.mem_cons_of_mem _ hm) q
      · obtain ⟨c, hc, rfl⟩ := List.mem_map.mp hzm
        rcases List.mem_append.mp q with q | q
        · exact hz c hc m (List.mem_cons_of_mem _ hm) q
        · rw [List.mem_singleton.mp q] at hm
          exact n'.1 hm
theorem every_rise {ns : List Str} {every : List (List Str)} (pw : ns.Pairwise ltS) (pe : every.Perm (subsOf ns)) (es : every.map (place ns) = sortD ((subsOf ns).map (place ns))) : every.Nodup ∧ every.Pairwise ltR := by
  have nd : every.Nodup := pe.nodup_iff.mpr (subs_nodup ns [[]] (nodup_pw pw) (List.nodup_cons.mpr ⟨List.not_mem_nil, List.nodup_nil⟩) fun z hz n _ q => by
    rw [List.mem_singleton.mp hz] at q
    cases q)
  refine ⟨nd, ?_⟩
  have T1 := PySem.W.sortLe_total (PyProof.Rows.listOrd PyProof.Rows.itemOrd) false (fun d : D => PySem.W.keyToks d.py)
  have p1 : (sortD ((subsOf ns).map (place ns))).Pairwise (fun a b => dataLe false D.py a b = true) := List.pairwise_mergeSort T1.trans (tot T1.total) _
  rw [← es] at p1
  have sub : ∀ z ∈ every, ∀ s ∈ z, s ∈ ns := fun z hz s hs => (subs_in (pe.mem_iff.mp hz)).subset hs
  refine List.pairwise_iff_forall_sublist.mpr fun {a b} hab => ?_
  have h := List.pairwise_iff_forall_sublist.mp p1 (hab.map (place ns))
  have ha := sub a (hab.subset List.mem_cons_self)
  have hb := sub b (hab.subset (List.mem_cons_of_mem _ List.mem_cons_self))
  have ne : a ≠ b := fun e => by
    have := nd.sublist hab
    rw [e] at this
    exact (List.nodup_cons.mp this).1 List.mem_cons_self
  have h : dataLt (place ns b).py (place ns a).py = false := by
    have h : (!dataLt (place ns b).py (place ns a).py) = true := h
    rw [Bool.not_eq_true'] at h
    exact h
  rw [place_py, place_py] at h
  refine Classical.byContradiction fun q => ?_
  have back : b.length < a.length ∨ (b.length = a.length ∧ keyR b < keyR a) := by
    rcases Nat.lt_trichotomy a.length b.length with z | z | z
    · exact absurd (.inl z) q
    · refine .inr ⟨z.symm, Classical.byContradiction fun w => ?_⟩
      exact ne (key_tri (fun y => q (.inr ⟨z, y⟩)) w)
    · exact .inl z
  have t := lt_place (la := (a.length : Int)) (lb := (b.length : Int)) (a := ixs ns a) (b := ixs ns b) (back.imp (fun z => by omega) fun z => ⟨by omega, ixs_lt pw hb ha z.2⟩)
  have t2 : dataLt (.tuple [.int (b.length : Int), .list ((b.map fun s => ((ixS ns s : Nat) : Int)).map PyData.int)]) (.tuple [.int (a.length : Int), .list ((a.map fun s => ((ixS ns s : Nat) : Int)).map PyData.int)]) = true := t
  rw [h] at t2
  cases t2
theorem leastStep_eq (acc : List (List Str)) (z : List Str) (b : Bool) : leastStep acc (z, b) = if b = true then (if acc.any (fun k => subL k z) = true then acc else acc ++ [z]) else acc := by
  have e : (acc.all fun o => !(o.all fun s => decide (s ∈ z))) = !acc.any fun k => subL k z := by
    rw [List.not_any_eq_all_not]
    rfl
  unfold leastStep
  rw [e]
  cases b with
  | false => rfl
  | true =>
    cases acc.any fun k => subL k z <;> rfl
theorem least_keep (g : List Str → Bool) : ∀ (every acc : List (List Str)), (every.map fun z => (z, g z)).foldl leastStep acc = keep subL acc (every.filter g)
  | [], acc => rfl
  | z :: every, acc => by
    rw [List.map_cons, List.foldl_cons, leastStep_eq, least_keep g every]
    cases e : g z with
    | false => rw [if_neg (by decide), List.filter_cons_of_neg (by rw [e]; decide)]
    | true =>
      rw [if_pos rfl, List.filter_cons_of_pos e]
      conv => rhs; unfold keep
      split <;> rfl
/-- what a rule's least sets are, told in names of a row -/
theorem IsLeast.mem {ns : List Str} {zs rows : List (List Str)} (h : IsLeast zs rows) (pw : ns.Pairwise ltS) (hz : ∀ z ∈ zs, ∀ n ∈ z, n ∈ ns) : rows.Pairwise ltR ∧ ∀ z, z ∈ rows ↔ LeastIn ns zs z := by
  obtain ⟨ys, kept, nd, so, hy, kp, hk, rfl⟩ := h
  have mk := mem_kept (fun a b => ltS_asym a b) (sorted_pw nd so) pw hy hz hk
  refine ⟨srt_rise ?_, fun z => ((srt_perm _).mem_iff).trans (mk z)⟩
  -- masks told apart stay apart
  refine List.pairwise_map.mpr (kp.imp_of_mem fun {a b} ha hb hab e => ?_)
  obtain ⟨z1, h1, rfl⟩ := List.mem_map.mp ((hk a).mp ha).1
  obtain ⟨z2, h2, rfl⟩ := List.mem_map.mp ((hk b).mp hb).1
  rw [namesN_mask, namesN_mask] at e
  have same : maskN ys z1 = maskN ys z2 := by
    refine Nat.eq_of_testBit_eq fun i => ?_
    rw [maskN_bit, maskN_bit]
    cases q : ys[i]? with
    | none => rfl
    | some n =>
      have hn := List.mem_of_getElem? q
      refine decide_eq_decide.mpr ?_
      have m1 : n ∈ ys.filter (fun n => decide (n ∈ z1)) ↔ n ∈ z1 := by simp [hn]
      have m2 : n ∈ ys.filter (fun n => decide (n ∈ z2)) ↔ n ∈ z2 := by simp [hn]
      rw [← m1, ← m2, e]
  omega
/-- the law's least ones are the rule's -/
theorem least_rows {ns : List Str} {zs rows every : List (List Str)} (pw : ns.Pairwise ltS) (hz : ∀ z ∈ zs, ∀ n ∈ z, n ∈ ns) (h : IsLeast zs rows) (pe : every.Perm (subsOf ns)) (es : every.map (place ns) = sortD ((subsOf ns).map (place ns))) {g : List Str → Bool} (hg : ∀ z ∈ every, g z = holdsN zs z) : leastOf (every.map fun z => (z, g z)) = rows := by
  obtain ⟨rr, rm⟩ := h.mem pw hz
  obtain ⟨en, er⟩ := every_rise pw pe es
  have nd := nodup_pw pw
  have sub : ∀ z, z ∈ every ↔ z.Sublist ns := fun z => pe.mem_iff.trans subs_iff
  have ps : every.Pairwise fun a b => subL b a = false := (er.and en).imp_of_mem fun {a b} ha hb hab => by
    rw [Bool.eq_false_iff]
    intro q
    have sb : b.Sublist a := by
      have h1 := canon_of nd ((sub b).mp hb)
      have h2 : canon ns b = a.filter fun n => decide (n ∈ b) := by
        have h3 := canon_of nd ((sub a).mp ha)
        rw [← h3]
        unfold canon
        rw [List.filter_filter]
        refine List.filter_congr fun m _ => ?_
        by_cases w : m ∈ b
        · simp [w, subL_iff.mp q m w]
        · simp [w]
      rw [← h1, h2]
      exact List.filter_sublist
    have l := sb.length_le
    rcases hab.1 with w | w
    · omega
    · exact hab.2 (sb.eq_of_length w.1.symm).symm
  obtain ⟨s1, s2⟩ := mem_good nd sub ps hg hz
  unfold leastOf
  rw [least_keep]
  exact rise_eq ltR_asym (er.sublist s1) rr fun z => (s2 z).trans (rm z).symm
end Dw

/-! M05l: the law's drawn sets. -/
namespace Dw
open PySem PySem.Spec PyProof.Rows L2
theorem q_draw {n : Int} {k : D → Prop} (h0 : 0 < n) (h1 : n < 1073741824) (h : ∀ m : Nat, (m : Int) < n → k (.int (m : Int))) : W.draw (.int n) k := ⟨⟨h0, h1⟩, fun m m0 m1 => by
  obtain ⟨i, rfl⟩ := Int.eq_ofNat_of_zero_le m0
  exact h i m1⟩
/-- a loop, by what holds before each turn -/
theorem q_forI {S : Type} {body : D → S → (S → Prop) → (S → Prop) → Prop} {p : S → Prop} (I : List D → S → Prop) (fin : ∀ s, I [] s → p s) (turn : ∀ x xs s (n : S → Prop), I (x :: xs) s → (∀ s', I xs s' → n s') → body x s n p) : ∀ {xs : List D} {s : S}, I xs s → W.forL body xs s p
  | [], s, h => fin s h
  | x :: xs, s, h => turn x xs s (fun s' => W.forL body xs s' p) h fun s' h' => q_forI I fin turn h'
theorem cutD_from {xs : List D} {a : Nat} : cutD xs (some (a : Int)) none = xs.drop a := by
  unfold cutD
  have e1 : HT.sIx xs.length xs.length none = xs.length := rfl
  have e2 : HT.sIx xs.length 0 (some (a : Int)) = min a xs.length := by
    unfold HT.sIx
    simp
    try omega
  rw [e1, e2]
  by_cases h : a ≤ xs.length
  · rw [Nat.min_eq_left h]
    exact List.take_of_length_le (by rw [List.length_drop]; omega)
  · rw [Nat.min_eq_right (by omega), List.drop_length, List.drop_of_length_le (by omega)]
    simp
theorem cut_to {α : Type} {f : α → D} {us : List α} {n : Nat} : cutD (us.map f) none (some (n : Int)) = (us.take n).map f := by
  rw [cutD_to (by omega), Int.toNat_natCast, List.map_take]
theorem cut_from {α : Type} {f : α → D} {us : List α} {n : Nat} : cutD (us.map f) (some (n : Int)) none = (us.drop n).map f := by
  rw [cutD_from, List.map_drop]
theorem perm_strs {us : List Str} {ys : List D} (h : ys.Perm (us.map D.str)) : ∃ vs : List Str, vs.Perm us ∧ ys = vs.map D.str := by
  refine ⟨ys.map unS, ?_, ?_⟩
  · have := h.map unS
    rw [List.map_map] at this
    have e : unS ∘ D.str = id := rfl
    rw [e, List.map_id] at this
    exact this
  · rw [List.map_map]
    refine (List.map_id ys).symm.trans (List.map_congr_left fun d hd => ?_)
    obtain ⟨s, _, rfl⟩ := List.mem_map.mp (h.mem_iff.mp hd)
    rfl
theorem q_mixed {us : List Str} {x : D} {k : D → Prop} (hx : x = .lst (us.map D.str) ∨ x = .tup (us.map D.str)) (hl : us.length ≤ 1000) (h : ∀ vs : List Str, vs.Perm us → k (.lst (vs.map D.str))) : p__law_mixed x k :=
  ⟨us.map D.str, hx, by rw [List.length_map]; exact hl, fun ys pm => by
    obtain ⟨vs, hv, rfl⟩ := perm_strs pm
    exact h vs hv⟩
theorem q_in23 {m : Nat} {k : D → Prop} (h : k (.bl (decide (m = 2 ∨ m = 3)))) : W.isIn false (.int (m : Int)) (.tup [.int 2, .int 3]) k := by
  refine .inl ⟨_, .inr rfl, rfl, rfl, ?_⟩
  have e : (false != ([D.int 2, .int 3].any fun z => z.alike (.int (m : Int)))) = decide (m = 2 ∨ m = 3) := by
    show (false != (((2 : Int) == (m : Int)) || (((3 : Int) == (m : Int)) || false))) = _
    by_cases h2 : m = 2
    · subst h2
      rfl
    · by_cases h3 : m = 3
      · subst h3
        rfl
      · have a : ((2 : Int) == (m : Int)) = false := beq_false_of_ne (by omega)
        have b : ((3 : Int) == (m : Int)) = false := beq_false_of_ne (by omega)
        rw [a, b]
        simp [h2, h3]
  rw [e]
  exact h
/-- sets of names of ns, few -/
def SomeSets (ns : List Str) (n : Nat) (zs : List (List Str)) : Prop := zs.length ≤ n ∧ ∀ z ∈ zs, z.length ≤ 8 ∧ ∀ s ∈ z, s ∈ ns
theorem q_none {k : D → Prop} (h1 : k (.lst [.tup []])) (h2 : k (.lst [])) : W.draw (D.int 3) fun v3 => W.ix (D.lst [(D.lst [(D.tup [])]), (D.lst [(D.tup [])]), (D.lst [])]) v3 fun v2 => k v2 :=
  q_draw (by decide) (by decide) fun m hm => by
    match m, hm with
    | 0, _ => exact q_ixL (i := 0) rfl h1
    | 1, _ => exact q_ixL (i := 1) rfl h1
    | 2, _ => exact q_ixL (i := 2) rfl h2
    | m + 3, hm => omega
theorem q_ixN {a b c d e f : Int} {m : Nat} {k : D → Prop} (hm : (m : Int) < 6) (h : ∀ n : Nat, 1 ≤ n → n ≤ 3 → k (.int (n : Int))) (ha : 1 ≤ a ∧ a ≤ 3) (hb : 1 ≤ b ∧ b ≤ 3) (hc : 1 ≤ c ∧ c ≤ 3) (hd : 1 ≤ d ∧ d ≤ 3) (he : 1 ≤ e ∧ e ≤ 3) (hf : 1 ≤ f ∧ f ≤ 3) :
    W.ix (D.lst [.int a, .int b, .int c, .int d, .int e, .int f]) (.int (m : Int)) k := by
  have go : ∀ x : Int, 1 ≤ x ∧ x ≤ 3 → k (.int x) := fun x hx => by
    obtain ⟨i, rfl⟩ := Int.eq_ofNat_of_zero_le (by omega : 0 ≤ x)
    exact h i (by omega) (by omega)
  match m, hm with
  | 0, _ => exact q_ixL (i := 0) rfl (go _ ha)
  | 1, _ => exact q_ixL (i := 1) rfl (go _ hb)
  | 2, _ => exact q_ixL (i := 2) rfl (go _ hc)
  | 3, _ => exact q_ixL (i := 3) rfl (go _ hd)
  | 4, _ => exact q_ixL (i := 4) rfl (go _ he)
  | 5, _ => exact q_ixL (i := 5) rfl (go _ hf)
  | m + 6, hm => omega
theorem q_range {n : Nat} {k : List D → Prop} (hn : n < 2 ^ 60) (h : k ((List.range n).map natD)) : W.range1 (.int (n : Int)) k := by
  refine ⟨⟨by omega, by omega⟩, ?_⟩
  have e : rangeD 0 (Int.toNat (n : Int)) = (List.range n).map natD := by
    rw [Int.toNat_natCast]
    refine List.ext_getElem? fun i => ?_
    by_cases hi : i < n
    · obtain ⟨x, hx⟩ : ∃ x, (rangeD 0 n)[i]? = some x := ⟨_, List.getElem?_eq_getElem (by rw [rangeD_len]; exact hi)⟩
      rw [hx, (rangeD_get hx).2, List.getElem?_map, List.getElem?_range hi]
      simp
    · rw [List.getElem?_eq_none (by rw [rangeD_len]; omega), List.getElem?_eq_none (by rw [List.length_map, List.length_range]; omega)]
  rw [e]
  exact h
theorem q_tupleOf {xs : List D} {k : D → Prop} (h : k (.tup xs)) : W.tupleOf [.lst xs] k := h
theorem q_part {i : Int} {k : Option Int → Prop} (h : k (some i)) : W.part (.int i) k := h
theorem q_slTo {α : Type} {f : α → D} {us : List α} {n : Nat} {k : D → Prop} (h : k (.lst ((us.take n).map f))) : W.sl (.lst (us.map f)) none (some (n : Int)) k := by
  show k (.lst (cutD _ _ _))
  rw [cut_to]
  exact h
theorem q_slFrom {α : Type} {f : α → D} {us : List α} {n : Nat} {k : D → Prop} (h : k (.lst ((us.drop n).map f))) : W.sl (.lst (us.map f)) (some (n : Int)) none k := by
  show k (.lst (cutD _ _ _))
  rw [cut_from]
  exact h
theorem q_bool {b : Bool} {k : Bool → Prop} (t : k true) (f : k false) : k b := by
  cases b
  · exact f
  · exact t
theorem q_joinB {m : (Bool → Prop) → Prop} {p q : Prop} (hm : ∀ k : Bool → Prop, k true → k false → m k) (hp : p) (hq : q) : W.join m fun b => W.ite b p q :=
  hm _ (q_T hp) (q_F hq)
theorem SomeSets.mono {ns : List Str} {n m : Nat} {zs : List (List Str)} (h : SomeSets ns n zs) (le : n ≤ m) : SomeSets ns m zs := ⟨Nat.le_trans h.1 le, h.2⟩
theorem SomeSets.append {ns : List Str} {n m : Nat} {zs ys : List (List Str)} (h : SomeSets ns n zs) (g : SomeSets ns m ys) : SomeSets ns (n + m) (zs ++ ys) := ⟨by rw [List.length_append]; exact Nat.add_le_add h.1 g.1, fun z hz => (List.mem_append.mp hz).elim (h.2 z) (g.2 z)⟩
theorem SomeSets.one {ns z : List Str} (hl : z.length ≤ 8) (h : ∀ s ∈ z, s ∈ ns) : SomeSets ns 1 [z] := ⟨Nat.le_refl _, fun y hy => by
  rw [List.mem_singleton.mp hy]
  exact ⟨hl, h⟩⟩
theorem some_map {ns : List Str} {l : List Str} {n : Nat} {f : Str → List Str} (hl : l.length ≤ n) (h : ∀ s ∈ l, (f s).length ≤ 8 ∧ ∀ t ∈ f s, t ∈ ns) : SomeSets ns n (l.map f) := ⟨by rw [List.length_map]; exact hl, fun z hz => by
  obtain ⟨s, hs, rfl⟩ := List.mem_map.mp hz
  exact h s hs⟩
theorem m_sets {ns : List Str} {k : D → Prop} (hl : ns.length ≤ 8) (h : ∀ zs : List (List Str), SomeSets ns 20 zs → k (.lst (zs.map tupS))) : p__law_sets (.lst (ns.map D.str)) k := by
  have s1 : (2000 : Nat) < sizeLine := by decide
  have s60 : (2000 : Nat) < 2 ^ 60 := by decide
  have one : k (.lst [.tup []]) := h [[]] ((SomeSets.one (z := []) (by decide) fun s hs => nomatch hs).mono (by decide))
  have nil : k (.lst []) := h [] ⟨by decide, fun z hz => nomatch hz⟩
  have el : (ns.map D.str).length = ns.length := List.length_map _
  unfold p__law_sets
  refine q_draw (by decide) (by decide) fun m hm => q_joinB (fun k t f => q_eqI (q_t (q_dec (fun _ => t) fun _ => q_lenL el (q_eqI (q_t (q_bool t f)))))) (q_none one nil) (q_mixed (.inl rfl) (by omega) fun us pm => ?_)
  have s5 : (us.take 5).length ≤ 5 := by rw [List.length_take]; omega
  have m5 : ∀ s ∈ us.take 5, s ∈ ns := fun s hs => pm.mem_iff.mp (List.mem_of_mem_take hs)
  refine q_part (q_slTo (n := 5) (q_joinB (fun k t f => q_eqI (q_t (q_dec (fun _ => q_lenL el (q_ii (q_t (q_bool t f)))) fun _ => f))) ?_ ?_))
  · -- pairs
    generalize us.take 5 = l at s5 m5
    have tl : (l.take 4).length ≤ 4 := by rw [List.length_take]; omega
    refine q_part (q_slTo (n := 4) (q_lenL (n := (l.take 4).length) (by rw [List.length_map]) (q_range (by omega) (q_forI (fun xs s => ∃ zs, s = zs.map tupS ∧ SomeSets ns (20 - 5 * xs.length) zs ∧ xs.length ≤ 4 ∧ ∀ x ∈ xs, ∃ i : Nat, x = natD i ∧ i < l.length) ?_ ?_ ?_))))
    · rintro s ⟨zs, rfl, ss, _⟩
      exact h zs (ss.mono (by omega))
    · rintro x xs s n ⟨zs, rfl, ss, hl4, hx⟩ hn
      obtain ⟨i, rfl, hi⟩ := hx x List.mem_cons_self
      rw [List.length_cons] at ss hl4
      have ti : (l.take i).length ≤ 5 := by rw [List.length_take]; omega
      refine q_part (q_slTo (n := i) (q_seq (.inl rfl) (q_comp D.str (fun s => some (tupS [l[i], s])) (by omega) (fun s hs q hq => q_ixL (i := i) (d := .str l[i]) ?_ hq) ?_)))
      · rw [List.getElem?_map, List.getElem?_eq_getElem hi]
        rfl
      · rw [filterMap_some]
        have sz := ss.1
        refine ⟨_, rfl, by rw [List.length_map, List.length_map]; omega, hn _ ⟨zs ++ (l.take i).map fun s => [l[i], s], ?_, ?_, by omega, fun x hm => hx x (List.mem_cons_of_mem _ hm)⟩⟩
        · rw [List.map_append, List.map_map]
          rfl
        · refine (ss.append (some_map (n := 5) ti fun s hs => ⟨by show 2 ≤ 8; omega, fun t ht => ?_⟩)).mono (by omega)
          rcases List.mem_cons.mp ht with rfl | ht
          · exact m5 _ (List.getElem_mem hi)
          · rw [List.mem_singleton.mp ht]
            exact m5 s (List.mem_of_mem_take hs)
    · refine ⟨[], rfl, ⟨Nat.zero_le _, fun z hz => nomatch hz⟩, by rw [List.length_map, List.length_range]; exact tl, fun x hx => ?_⟩
      obtain ⟨i, hi, rfl⟩ := List.mem_map.mp hx
      refine ⟨i, rfl, ?_⟩
      have := List.mem_range.mp hi
      rw [List.length_take] at this
      omega
  · generalize us.take 5 = l at s5 m5
    refine q_in23 (q_t (q_dec (fun h23 => ?_) fun h23 => ?_))
    · have all : k (.lst [tupS ns]) := h [ns] ((SomeSets.one hl fun s hs => hs).mono (by decide))
      have singles : k (.lst (l.map fun s => tupS [s])) := by
        have := h (l.map fun s => [s]) (some_map (by omega) fun s hs => ⟨by show 1 ≤ 8; omega, fun t ht => by rw [List.mem_singleton.mp ht]; exact m5 s hs⟩)
        rw [List.map_map] at this
        exact this
      refine q_tupleOf (q_seq (.inl rfl) (q_comp D.str (fun s => some (tupS [s])) (by omega) (fun s hs q hq => hq) ?_))
      rw [filterMap_some]
      rcases h23 with rfl | rfl
      · exact q_ii (q_ixL (i := 0) rfl all)
      · exact q_ii (q_ixL (i := 1) rfl singles)
    · refine q_draw (by decide) (by decide) fun m2 hm2 => q_ixN hm2 (fun t t1 t3 => q_range (by omega) (q_forI (fun xs s => ∃ zs, s = zs.map tupS ∧ SomeSets ns (3 - xs.length) zs ∧ xs.length ≤ 3) ?_ ?_ ?_)) (by decide) (by decide) (by decide) (by decide) (by decide) (by decide)
      · rintro s ⟨zs, rfl, ss, _⟩
        exact h zs (ss.mono (by omega))
      · rintro x xs s n ⟨zs, rfl, ss, hl3⟩ hn
        rw [List.length_cons] at ss hl3
        refine q_mixed (.inl rfl) (by omega) fun vs pv => q_draw (by decide) (by decide) fun m3 hm3 => q_ixN hm3 (fun t t1 t3 => q_part (q_slTo (n := t) ?_)) (by decide) (by decide) (by decide) (by decide) (by decide) (by decide)
        have sz := ss.1
        refine (show (zs.map tupS).length < sizeLine ∧ n (zs.map tupS ++ [tupS (vs.take t)]) from ⟨by rw [List.length_map]; omega, hn _ ⟨zs ++ [vs.take t], by rw [List.map_append]; rfl, ?_, by omega⟩⟩)
        refine (ss.append (SomeSets.one ?_ fun s hs => pv.mem_iff.mp (List.mem_of_mem_take hs))).mono (by omega)
        rw [List.length_take]
        omega
      · exact ⟨[], rfl, ⟨Nat.zero_le _, fun z hz => nomatch hz⟩, by rw [List.length_map, List.length_range]; exact t3⟩
end Dw

/-! TxtF: texts put together are sound and short. -/
namespace Dw
open PySem PySem.Builtin PySem.Builtin.Str PyProof.Rows
theorem strOk_app {a b : Str} (ha : PyData.strOk a = true) (hb : PyData.strOk b = true) : PyData.strOk (a ++ b) = true := by
  unfold PyData.strOk at ha hb ⊢
  rw [PySem.Str.cps_append, Array.all_append, ha, hb]
  rfl
theorem strOk_join {sep : Str} (hs : PyData.strOk sep = true) : ∀ {ys : List Str}, (∀ y ∈ ys, PyData.strOk y = true) → PyData.strOk (Str.join sep ys) = true
  | [], _ => by show PyData.strOk Str.empty = true; decide +kernel
  | [x], h => h x List.mem_cons_self
  | x :: y :: l, h => strOk_app (strOk_app (h x List.mem_cons_self) hs) (strOk_join hs fun z hz => h z (List.mem_cons_of_mem _ hz))
theorem strOk_joinT {sep : Str} (hs : PyData.strOk sep = true) {ys : List Str} (h : ∀ y ∈ ys, PyData.strOk y = true) : PyData.strOk (Txt.join sep ys) = true := by
  show PyData.strOk (glued sep ys) = true
  rw [StrLaws.glued_eq_join]
  exact strOk_join hs h
theorem len_join' {sep : Str} {n : Nat} : ∀ {ys : List Str}, (∀ y ∈ ys, y.length ≤ n) → (Str.join sep ys).length ≤ ys.length * (n + sep.length)
  | [], _ => Nat.zero_le _
  | [x], h => by
    have := h x List.mem_cons_self
    show x.length ≤ 1 * (n + sep.length)
    omega
  | x :: y :: l, h => by
    have h1 := h x List.mem_cons_self
    have h2 := len_join' (sep := sep) fun z hz => h z (List.mem_cons_of_mem _ hz)
    show (x ++ sep ++ Str.join sep (y :: l)).length ≤ _
    rw [PySem.Str.length_append, PySem.Str.length_append, List.length_cons, Nat.succ_mul]
    omega
theorem len_joinT {sep : Str} {n : Nat} {ys : List Str} (h : ∀ y ∈ ys, y.length ≤ n) : (Txt.join sep ys).length ≤ ys.length * (n + sep.length) := by
  show (glued sep ys).length ≤ _
  rw [StrLaws.glued_eq_join]
  exact len_join' h
theorem sum_len {n : Nat} : ∀ {ys : List Str}, (∀ y ∈ ys, y.length ≤ n) → (ys.map (·.length)).sum ≤ ys.length * n
  | [], _ => Nat.zero_le _
  | x :: l, h => by
    have h1 := h x List.mem_cons_self
    have h2 := sum_len fun z hz => h z (List.mem_cons_of_mem _ hz)
    rw [List.map_cons, List.sum_cons, List.length_cons, Nat.succ_mul]
    omega
end Dw

/-! M05m: rules met are short and sound; given and lacking hold where they should. -/
namespace Dw
open PySem PySem.Spec PyProof.Rows L2
theorem ok_name5 {w : List Nat} (h : Name w) : D.ok 0 70 (.str (tx w)) := by
  refine ⟨?_, Nat.le_refl _, ?_⟩
  · show PyData.strOk (tx w) = true
    show (tx w).cps.all (· < 0x110000) = true
    rw [Array.all_eq_true']
    intro c hc
    have := h.1 c (by simpa [tx] using hc)
    exact decide_eq_true (by omega)
  · show (reprText (tx w)).length ≤ 70
    refine Nat.le_trans (PySem.StrLaws.reprText_len (tx w) fun c hc => ?_) ?_
    · have := h.1 c (by simpa [tx] using hc)
      omega
    · rw [tx_len]
      have := h.2.2.1
      omega
def NameS (s : Str) : Prop := ∃ w, Name w ∧ s = tx w
theorem NameS.ok {s : Str} (h : NameS s) : D.ok 0 70 (.str s) := by
  obtain ⟨w, hw, rfl⟩ := h
  exact ok_name5 hw
theorem NameS.len {s : Str} (h : NameS s) : s.length ≤ 6 := by
  obtain ⟨w, hw, rfl⟩ := h
  rw [tx_len]
  exact hw.2.2.1
theorem NameS.strOk {s : Str} (h : NameS s) : PyData.strOk s = true := h.ok.1
theorem sum_le {α : Type} {f : α → Nat} {n : Nat} : ∀ {l : List α}, (∀ a ∈ l, f a ≤ n) → (l.map f).sum ≤ l.length * n
  | [], _ => Nat.zero_le _
  | a :: l, h => by
    have h1 := h a List.mem_cons_self
    have h2 := sum_le fun b hb => h b (List.mem_cons_of_mem _ hb)
    rw [List.map_cons, List.sum_cons, List.length_cons, Nat.succ_mul]
    omega
theorem joinC_len {n : Nat} {ys : List Str} (h : ∀ y ∈ ys, y.length ≤ n) : (joinC ys).length ≤ ys.length * (n + 3) := len_joinT h
theorem fit_of {n m : Nat} {ys : List Str} (h : ∀ y ∈ ys, y.length ≤ n) (hl : ys.length ≤ m) (hb : m * (n + 3) ≤ 100000) : Fit ys := by
  have h1 := sum_len h
  have h2 := joinC_len h
  have h3 : ys.length * (n + 3) ≤ m * (n + 3) := Nat.mul_le_mul_right _ hl
  have h4 : ys.length * (n + 3) = ys.length * n + ys.length * 3 := Nat.mul_add ..
  exact ⟨by omega, by omega⟩
theorem showS_len {z : List Str} (h : ∀ s ∈ z, s.length ≤ 6) (hl : z.length ≤ 8) : (showS z).length ≤ 100 := by
  unfold showS
  split
  · decide
  · split
    · cases z with
      | nil => decide
      | cons a l => exact Nat.le_trans (h a List.mem_cons_self) (by decide)
    · have := joinC_len h
      have h2 : z.length * (6 + 3) ≤ 8 * 9 := Nat.mul_le_mul_right _ hl
      rw [Str.length_append, Str.length_append]
      show 6 + _ + 2 ≤ 100
      omega
theorem showS_ok {z : List Str} (h : ∀ s ∈ z, PyData.strOk s = true) : PyData.strOk (showS z) = true := by
  unfold showS
  split
  · decide +kernel
  · split
    · cases z with
      | nil => decide +kernel
      | cons a l => exact h a List.mem_cons_self
    · exact strOk_app (strOk_app (by decide +kernel) (strOk_joinT (by decide +kernel) h)) (by decide +kernel)
theorem canon_len {ns z : List Str} : (canon ns z).length ≤ ns.length := (canon_sub ns z).length_le
theorem good_any {ns : List Str} {rows : List (List Str)} {ys : List Str} (hl : ns.length ≤ 8) (hn : ∀ s ∈ ns, NameS s) (rl : rows.length ≤ 256) (rn : rows.Nodup) (sub : ∀ z ∈ rows, z.Sublist ns) (hone : [] ∈ rows → ∀ y ∈ rows, y = []) (hy : IsNames rows ys) : Good05 rows ys := by
  have s1 : (100000 : Nat) < sizeLine := by decide
  have oks : Oks ns := fun s hs => (hn s hs).strOk
  have mem : ∀ z ∈ rows, ∀ s ∈ z, s ∈ ns := fun z hzm s hs => (sub z hzm).subset hs
  have zl : ∀ z ∈ rows, z.length ≤ 8 := fun z hzm => Nat.le_trans (sub z hzm).length_le hl
  have l6 : ∀ z ∈ rows, ∀ s ∈ z, s.length ≤ 6 := fun z hzm s hs => (hn s (mem z hzm s hs)).len
  have sh : ∀ t ∈ rows.map showS, t.length ≤ 100 := fun t ht => by
    obtain ⟨z, hzm, rfl⟩ := List.mem_map.mp ht
    exact showS_len (l6 z hzm) (zl z hzm)
  have fit2 : Fit (rows.map showS) := fit_of (m := 256) sh (by rw [List.length_map]; exact rl) (by decide)
  have okz : ∀ z ∈ rows, D.ok 1 579 (tupS z) := fun z hzm => ok_tup (n := 0) (B := 70) (L := 8) (fun x hx => by
    obtain ⟨s, hs, rfl⟩ := List.mem_map.mp hx
    exact (hn s (mem z hzm s hs)).ok) (by rw [List.length_map]; exact zl z hzm)
  have yn : ∀ y ∈ ys, y ∈ ns := fun y hym => by
    obtain ⟨z, hz1, hz2⟩ := (hy.2.2 y).mp hym
    exact mem z hz1 y hz2
  refine ⟨⟨ns, by omega, oks, mem⟩, hy, by omega, fun z hzm => by have := zl z hzm; omega, ?_, ⟨fun z hzm => fit_of (m := 8) (l6 z hzm) (zl z hzm) (by decide), fit2, by omega⟩, ?_, fun t ht => ?_, fun h0 => ?_, ⟨2, 148739, ?_, by decide, by decide⟩, ⟨1, 579, ?_, by decide, by decide⟩⟩
  · rw [List.length_flatten]
    have := sum_le (f := List.length) zl
    omega
  · unfold showR
    split
    · decide
    · split
      · cases rows with
        | nil => decide
        | cons z l => exact Nat.le_trans (sh _ List.mem_cons_self) (by decide)
      · have := fit2.2
        rw [Str.length_append, Str.length_append]
        show 6 + _ + 2 ≤ _
        omega
  · obtain ⟨z, hzm, rfl⟩ := List.mem_map.mp ht
    exact showS_ok fun s hs => (hn s (mem z hzm s hs)).strOk
  · have all0 := hone h0
    match rows, rn, all0, h0 with
    | [], _, _, h0 => cases h0
    | [a], _, all0, _ => rw [all0 a List.mem_cons_self]
    | a :: b :: l, rn, all0, _ =>
      have e1 := all0 a List.mem_cons_self
      have e2 := all0 b (List.mem_cons_of_mem _ List.mem_cons_self)
      rw [e1, e2] at rn
      exact absurd List.mem_cons_self (List.nodup_cons.mp rn).1
  · exact ok_tup (n := 1) (B := 579) (L := 256) (fun x hx => by
      obtain ⟨z, hzm, rfl⟩ := List.mem_map.mp hx
      exact okz z hzm) (by rw [List.length_map]; exact rl)
  · exact ok_tup (n := 0) (B := 70) (L := 8) (fun x hx => by
      obtain ⟨s, hs, rfl⟩ := List.mem_map.mp hx
      exact (hn s (yn s hs)).ok) (by rw [List.length_map]; exact Nat.le_trans (nodup_sub hy.1 yn) hl)
theorem rise_nodup {rows : List (List Str)} (h : rows.Pairwise ltR) : rows.Nodup := h.imp fun {a b} q e => by
  rw [e] at q
  exact ltR_asym _ _ q q
theorem good_rows {ns : List Str} {zs rows : List (List Str)} {ys : List Str} (pw : ns.Pairwise ltS) (hl : ns.length ≤ 8) (hn : ∀ s ∈ ns, NameS s) (hz : ∀ z ∈ zs, ∀ n ∈ z, n ∈ ns) (hzl : zs.length < 64) (h : IsLeast zs rows) (hy : IsNames rows ys) : Good05 rows ys := by
  obtain ⟨rr, rm⟩ := h.mem pw hz
  refine good_any hl hn (Nat.le_trans h.len (by omega)) (rise_nodup rr) (fun z hzm => ?_) (fun h0 y hym => ?_) hy
  · obtain ⟨z0, _, rfl, _⟩ := (rm z).mp hzm
    exact canon_sub _ _
  · obtain ⟨z0, h1, e0, hm⟩ := (rm []).mp h0
    have none : ∀ n, n ∉ z0 := fun n hn0 => by
      have : n ∈ canon ns z0 := mem_canon.mpr ⟨hz z0 h1 n hn0, hn0⟩
      rw [← e0] at this
      cases this
    obtain ⟨y0, h2, e1, hm2⟩ := (rm y).mp hym
    rw [e1]
    refine List.filter_eq_nil_iff.mpr fun n _ => ?_
    rw [decide_eq_true_eq]
    exact fun q => none n (hm2 z0 h1 (fun n hn0 => absurd hn0 (none n)) n q)
/-! where rules hold -/
def sans (n : Str) (z : List Str) : List Str := z.filter fun s => !decide (s = n)
theorem mem_sans {n s : Str} {z : List Str} : s ∈ sans n z ↔ s ∈ z ∧ s ≠ n := by
  unfold sans
  rw [List.mem_filter]
  simp
theorem given_holds (n : Str) (rows : List (List Str)) (p : List Str) : anyIn (rows.map (sans n)) p = anyIn rows (p ++ [n]) := by
  unfold anyIn
  rw [List.any_map, Bool.eq_iff_iff, List.any_eq_true, List.any_eq_true]
  refine exists_congr fun z => and_congr_right fun _ => ?_
  show subL (sans n z) p = true ↔ _
  rw [subL_iff, subL_iff]
  constructor
  · intro h s hs
    by_cases e : s = n
    · rw [e]
      simp
    · exact List.mem_append_left _ (h s (mem_sans.mpr ⟨hs, e⟩))
  · intro h s hs
    obtain ⟨h1, h2⟩ := mem_sans.mp hs
    rcases List.mem_append.mp (h s h1) with q | q
    · exact q
    · exact absurd (List.mem_singleton.mp q) h2
theorem lacking_holds (n : Str) (rows : List (List Str)) (p : List Str) : anyIn (rows.filter fun z => !decide (n ∈ z)) p = anyIn rows (sans n p) := by
  unfold anyIn
  rw [Bool.eq_iff_iff, List.any_eq_true, List.any_eq_true]
  refine exists_congr fun z => ?_
  rw [List.mem_filter, subL_iff, subL_iff]
  constructor
  · rintro ⟨⟨h1, h2⟩, h3⟩
    have h2 : n ∉ z := by simpa using h2
    exact ⟨h1, fun s hs => mem_sans.mpr ⟨h3 s hs, fun e => h2 (by rw [← e]; exact hs)⟩⟩
  · rintro ⟨h1, h2⟩
    refine ⟨⟨h1, ?_⟩, fun s hs => (mem_sans.mp (h2 s hs)).1⟩
    have : n ∉ z := fun q => (mem_sans.mp (h2 n q)).2 rfl
    simpa using this
end Dw

/-! M05p: rows compared; short ways in laws of rules. -/
namespace Dw
open PySem PySem.Spec PyProof.Rows L2
theorem q_addI {a b : Nat} {k : D → Prop} (h : k (.int ((a + b : Nat) : Int))) : W.add (.int (a : Int)) (.int (b : Int)) k := by
  show k (.int ((a : Int) + (b : Int)))
  rw [← Int.natCast_add]
  exact h
theorem q_addL {α : Type} {f : α → D} {a b : List α} {k : D → Prop} (hz : a.length + b.length ≤ sizeLine) (h : k (.lst ((a ++ b).map f))) : W.add (.lst (a.map f)) (.lst (b.map f)) k := by
  refine (show (a.map f).length + (b.map f).length ≤ sizeLine ∧ k (.lst (a.map f ++ b.map f)) from ⟨by rw [List.length_map, List.length_map]; exact hz, ?_⟩)
  rw [← List.map_append]
  exact h
theorem q_nt {b : Bool} {k : Bool → Prop} (h : k (!b)) : W.nt b k := h
theorem q_isRule {c : Cn} {rows : List (List Str)} {ys : List Str} {k : D → Prop} (hk : c.kit (.ref c.Rule) (.ref c.Rule) = some true) (h : k (.bl true)) : W.isi c.kit (.ref c.Rule) (ruleD c rows ys) k := ⟨⟨true, (fun z => nomatch z), hk, h⟩⟩
theorem q_objR {c : Cn} {m : Str} {rows : List (List Str)} {ys : List Str} {k : Prop} (hm : (["least", "names"] : List Str).contains m = false) (h : k) : W.obj [c.Rule] m (ruleD c rows ys) k := ⟨c.Rule, _, _, List.mem_singleton.mpr rfl, rfl, hm, h⟩
theorem m_truth' {c : Cn} {a b : Bool} {k : D → Prop} (hk : c.kit (.type "bool") (.type "bool") = some true) (e : a = b) (h : k (.bl true)) : p__law_truth c (.bl a) (.bl b) k :=
  m_truth hk (by rw [decide_eq_true e]; exact h)
/-! rows of texts compared -/
theorem eqv_strs : ∀ (a b : List Str), PyData.eqvAll (a.map PyData.str) (b.map PyData.str) = decide (a = b)
  | [], [] => rfl
  | [], b :: bs => by rw [decide_eq_false (fun z => nomatch z)]; rfl
  | a :: as, [] => by rw [decide_eq_false (fun z => nomatch z)]; rfl
  | a :: as, b :: bs => by
    rw [List.map_cons, List.map_cons, PySem.W.eqv_all_cons, eqv_strs as bs, Bool.eq_iff_iff, Bool.and_eq_true, decide_eq_true_eq, decide_eq_true_eq]
    have e : PyData.eqv (.str a) (.str b) = true ↔ a = b := by simp [PyData.eqv]
    rw [e]
    exact ⟨fun ⟨h1, h2⟩ => by rw [h1, h2], fun h => List.cons.inj h⟩
theorem eqv_tupS (a b : List Str) : PyData.eqv (tupS a).py (tupS b).py = decide (a = b) := by
  rw [tupS_py, tupS_py]
  exact eqv_strs a b
theorem eqv_rowsL : ∀ (a b : List (List Str)), PyData.eqvAll (D.pyL (a.map tupS)) (D.pyL (b.map tupS)) = decide (a = b)
  | [], [] => rfl
  | [], b :: bs => by rw [decide_eq_false (fun z => nomatch z)]; rfl
  | a :: as, [] => by rw [decide_eq_false (fun z => nomatch z)]; rfl
  | a :: as, b :: bs => by
    show PyData.eqvAll ((tupS a).py :: D.pyL (as.map tupS)) ((tupS b).py :: D.pyL (bs.map tupS)) = _
    rw [PySem.W.eqv_all_cons, eqv_rowsL as bs, eqv_tupS, Bool.eq_iff_iff, Bool.and_eq_true, decide_eq_true_eq, decide_eq_true_eq, decide_eq_true_eq]
    exact ⟨fun ⟨h1, h2⟩ => by rw [h1, h2], fun h => List.cons.inj h⟩
theorem deep_row {z : List Str} (ok : Oks z) : (tupS z).deep := deepT (deep_strs ok).1 (deep_strs ok).2 (by decide)
theorem deep_rowsL {rows : List (List Str)} (ok : ∀ z ∈ rows, Oks z) : (D.lst (rows.map tupS)).deep := by
  refine deepL (n := 1) (fun x hx => ?_) (fun x hx => ?_) (by decide)
  · obtain ⟨z, hz, rfl⟩ := List.mem_map.mp hx
    exact plL_of (deep_strs (ok z hz)).1
  · obtain ⟨z, hz, rfl⟩ := List.mem_map.mp hx
    exact Nat.succ_le_succ (depthAll_le (deep_strs (ok z hz)).2)
theorem q_eqR {a b : List (List Str)} {k : D → Prop} (ha : ∀ z ∈ a, Oks z) (hb : ∀ z ∈ b, Oks z) (h : k (.bl (decide (a = b)))) : W.eq (.tup (a.map tupS)) (.tup (b.map tupS)) k := by
  refine .inr ⟨deep_rows ha, deep_rows hb, ?_⟩
  have e : PyData.eqv (D.tup (a.map tupS)).py (D.tup (b.map tupS)).py = decide (a = b) := eqv_rowsL a b
  rw [e]
  exact h
theorem q_neR {a b : List (List Str)} {k : D → Prop} (ha : ∀ z ∈ a, Oks z) (hb : ∀ z ∈ b, Oks z) (h : k (.bl (!decide (a = b)))) : W.ne (.tup (a.map tupS)) (.tup (b.map tupS)) k := by
  refine .inr ⟨deep_rows ha, deep_rows hb, ?_⟩
  have e : PyData.eqv (D.tup (a.map tupS)).py (D.tup (b.map tupS)).py = decide (a = b) := eqv_rowsL a b
  rw [e]
  exact h
theorem q_inR {z : List Str} {l : List (List Str)} {k : D → Prop} (hz : Oks z) (hl : ∀ y ∈ l, Oks y) (h : k (.bl (decide (z ∈ l)))) : W.isIn false (tupS z) (.lst (l.map tupS)) k := by
  refine .inr (.inl ⟨_, rfl, deep_row hz, deep_rowsL hl, ?_⟩)
  have e : (false != (l.map tupS).any fun y => PyData.eqv y.py (tupS z).py) = decide (z ∈ l) := by
    rw [List.any_map]
    have f : ((fun y : D => PyData.eqv y.py (tupS z).py) ∘ tupS) = fun y => decide (y = z) := funext fun y => eqv_tupS y z
    rw [f]
    have g : (l.any fun y => decide (y = z)) = decide (z ∈ l) := by
      rw [Bool.eq_iff_iff, List.any_eq_true, decide_eq_true_eq]
      constructor
      · rintro ⟨y, hy, e⟩
        rw [← of_decide_eq_true e]
        exact hy
      · exact fun h => ⟨z, h, decide_eq_true rfl⟩
    rw [g]
    cases decide (z ∈ l) <;> rfl
  rw [e]
  exact h
theorem q_neNilE {k : D → Prop} (h : k (.bl false)) : W.ne (.lst []) (.lst []) k := .inr ⟨⟨rfl, by decide⟩, ⟨rfl, by decide⟩, h⟩
end Dw

/-! M02a: rules of lists and tuples; the law's own least sets. -/
namespace Dw
open PySem PySem.Spec PyProof.Rows L2
open PySem.W (dataLe dataLt AllAlike Sortable alike alikeAll)
/-- a row as a list or as a tuple -/
def rowD (p : List Str × Bool) : D := if p.2 = true then lstS p.1 else tupS p.1
theorem rowD_row (p : List Str × Bool) : Row (rowD p) p.1 := by
  unfold rowD
  by_cases h : p.2 = true
  · rw [if_pos h]
    exact .inl rfl
  · rw [if_neg h]
    exact .inr rfl
theorem setsD_mixed {x : D} {ps : List (List Str × Bool)} (hx : x = .lst (ps.map rowD) ∨ x = .tup (ps.map rowD)) : SetsD x (ps.map (·.1)) := by
  refine ⟨ps.map rowD, hx, by rw [List.length_map, List.length_map], fun i y z hy hz => ?_⟩
  rw [List.getElem?_map] at hy hz
  cases e : ps[i]? with
  | none =>
    rw [e] at hy
    cases hy
  | some p =>
    rw [e] at hy hz
    cases hy
    cases hz
    exact rowD_row p
theorem m_of_mixed {c : Cn} {x0 x : D} {ps : List (List Str × Bool)} {k : D → Prop} (hx : x = .lst (ps.map rowD) ∨ x = .tup (ps.map rowD)) (few : FewOk (ps.map (·.1))) (hz : ps.length < 64)
    (h : ∀ rows ys, IsLeast (ps.map (·.1)) rows → IsNames rows ys → k (ruleD c rows ys)) : p_Rule_of_sets c x0 x k := by
  have few0 := few
  obtain ⟨B, hB, okB, hzB⟩ := few
  have s64 : (64 : Nat) < sizeLine := by decide
  have sb : (66 : Nat) < scanBound := by decide +kernel
  unfold p_Rule_of_sets p_least_sets
  refine ⟨⟨x, ps.map (·.1), rfl, setsD_mixed hx, B, hB, hzB⟩, fun d ⟨x', zs', ys, e, hs, ed, nd, so, hy⟩ => ?_⟩
  obtain rfl := (List.cons.inj e).1
  obtain rfl := setsD_inj (setsD_mixed hx) hs
  subst ed
  have yB : ∀ y ∈ ys, y ∈ B := fun y hy' => by
    obtain ⟨z, hz1, hz2⟩ := (hy y).mp hy'
    exact hzB z hz1 y hz2
  have ly : ys.length ≤ 64 := Nat.le_of_lt (Nat.lt_of_le_of_lt (nodup_sub nd yB) hB)
  refine q_seq hx (q_comp rowD (fun p => some (natD (maskN ys p.1))) (by omega) (fun p _ q hq => m_mask (rowD_row p) ly hq) ?_)
  rw [filterMap_some]
  have em : (ps.map fun p => natD (maskN ys p.1)) = ((ps.map (·.1)).map (maskN ys)).map natD := by rw [List.map_map, List.map_map]; rfl
  rw [em]
  have lm : ((ps.map (·.1)).map (maskN ys)).length = ps.length := by rw [List.length_map, List.length_map]
  refine ⟨⟨_, (ps.map (·.1)).map (maskN ys), rfl, .inl rfl, by omega⟩, fun d ⟨x', ms', z2, e, hm, r2, m2, ed⟩ => ?_⟩
  have e1 := (List.cons.inj e).1
  subst e1
  have e2 : (ps.map (·.1)).map (maskN ys) = ms' := by
    rcases hm with q | q <;> first
      | exact natD_inj (D.lst.inj q)
      | cases q
  subst e2
  subst ed
  have asc : z2.Pairwise (fun a b => within b a = false) := r2.imp fun {a b} hab => by
    rw [Bool.eq_false_iff]
    intro w
    have := within_le w
    omega
  obtain ⟨sl, ks⟩ := keep_spec (sub := within) within_refl within_trans asc
  have kr : (keep within [] z2).Pairwise (· < ·) := r2.sublist sl
  have km : ∀ m, m ∈ keep within [] z2 ↔ Lst within ((ps.map (·.1)).map (maskN ys)) m := fun m => by
    rw [ks m]
    unfold Lst
    rw [m2 m]
    exact and_congr_right fun _ => forall_congr' fun c => by rw [m2 c]
  have l2 : (keep within [] z2).length < 64 := by
    have n2 : z2.Nodup := r2.imp fun {a b} hab => Nat.ne_of_lt hab
    have := nodup_sub (B := (ps.map (·.1)).map (maskN ys)) n2 fun m hm => (m2 m).mp hm
    have := sl.length_le
    omega
  generalize keep within [] z2 = kept at kr km l2
  refine m_in_order ly (by omega) (fun m _ s hs => okB s (yB s (mem_namesN hs))) ?_ ?_
  · by_cases z0 : (0 : Nat) ∈ kept
    · left
      have all0 : ∀ m ∈ kept, m = 0 := fun m hm => ((km m).mp hm).2 0 ((km 0).mp z0).1 (within_bits.mpr fun i hi => by
        rw [Nat.zero_testBit] at hi
        cases hi) |>.symm
      match kept, kr, all0 with
      | [], _, _ => exact Nat.zero_lt_two
      | [a], _, _ => exact Nat.one_lt_two
      | a :: b :: l, kr, all0 =>
        have h1 := all0 a List.mem_cons_self
        have h2 := all0 b (List.mem_cons_of_mem _ List.mem_cons_self)
        have h3 := (List.pairwise_cons.mp kr).1 b List.mem_cons_self
        omega
    · right
      intro m hm e
      obtain ⟨hm1, _⟩ := (km m).mp hm
      obtain ⟨z, _, rfl⟩ := List.mem_map.mp hm1
      have e0 : maskN ys z = 0 := by
        rw [namesN_mask, List.filter_eq_nil_iff] at e
        refine Nat.eq_of_testBit_eq fun i => ?_
        rw [maskN_bit, Nat.zero_testBit]
        cases q : ys[i]? with
        | none => rfl
        | some n =>
          have := e n (List.mem_of_getElem? q)
          simpa using this
      rw [e0] at hm
      exact z0 hm
  · have eq1 : (kept.map fun m => tupS (namesN ys m)) = (kept.map (namesN ys)).map tupS := by rw [List.map_map]; rfl
    rw [eq1, srt_map]
    have hr : IsLeast (ps.map (·.1)) (srt (kept.map (namesN ys))) := ⟨ys, kept, nd, so, hy, kr, km, rfl⟩
    exact m_init (hr.few few0) fun ys' hy' => h _ ys' hr hy'
/-! no list in a rule -/
theorem noLL_map {α : Type} {f : α → D} (h : ∀ a, (f a).noL = true) : ∀ l : List α, D.noLL (l.map f) = true
  | [] => rfl
  | a :: l => by
    show ((f a).noL && D.noLL (l.map f)) = true
    rw [h a, noLL_map h l]
    rfl
theorem tupS_noL (z : List Str) : (tupS z).noL = true := noLL_map (f := D.str) (fun _ => rfl) z
theorem rows_noL (rows : List (List Str)) : (D.tup (rows.map tupS)).noL = true := noLL_map tupS_noL rows
theorem ruleD_noL (c : Cn) (rows : List (List Str)) (ys : List Str) : (ruleD c rows ys).noL = true := by
  show ((D.tup (rows.map tupS)).noL && ((D.tup (ys.map D.str)).noL && true)) = true
  rw [rows_noL, show (D.tup (ys.map D.str)).noL = true from tupS_noL ys]
  rfl
/-! rows as pairs of their size and their names -/
def pairD (z : List Str) : D := .tup [.int (z.length : Int), lstS z]
theorem lstS_py (z : List Str) : (lstS z).py = .list (z.map PyData.str) := congrArg PyData.list (pyL_strs z)
theorem pairD_py (z : List Str) : (pairD z).py = .tuple [.int (z.length : Int), .list (z.map PyData.str)] := by
  show PyData.tuple [.int (z.length : Int), (lstS z).py] = _
  rw [lstS_py]
def unPair : D → List Str
  | .tup [_, .lst ds] => ds.map unS
  | _ => []
theorem unPair_pairD (z : List Str) : unPair (pairD z) = z := by
  show (z.map D.str).map unS = z
  rw [List.map_map]
  have : unS ∘ D.str = id := rfl
  rw [this, List.map_id]
theorem pairD_inj {a b : List Str} (h : pairD a = pairD b) : a = b := by rw [← unPair_pairD a, ← unPair_pairD b, h]
theorem eqv_pairD (a b : List Str) : PyData.eqv (pairD a).py (pairD b).py = decide (a = b) := by
  rw [pairD_py, pairD_py]
  have e : PyData.eqv (.tuple [.int (a.length : Int), .list (a.map PyData.str)]) (.tuple [.int (b.length : Int), .list (b.map PyData.str)]) = (((a.length : Int) == (b.length : Int)) && (PyData.eqvAll (a.map PyData.str) (b.map PyData.str) && true)) := by
    simp [PyData.eqv, PyData.eqvAll]
  rw [e, eqv_strs, Bool.and_true, Bool.eq_iff_iff, Bool.and_eq_true, decide_eq_true_eq, beq_iff_eq]
  exact ⟨fun h => h.2, fun h => ⟨by rw [h], h⟩⟩
theorem lt_pairD {a b : List Str} (h : ltR b a) : dataLt (pairD b).py (pairD a).py = true := by
  rw [pairD_py, pairD_py, PySem.W.dataLt_pair (by simp [alike]) (by simp [alike, alike_strs]), PySem.W.dataLt_int, PySem.W.dataLt_list]
  have er : PyProof.Rows.lexLt PyProof.Rows.itemOrd (PySem.W.keyToksAll (b.map .str)) (PySem.W.keyToksAll (a.map .str)) = decide (keyR b < keyR a) := rowLt_strs b a
  rcases h with h | ⟨h1, h2⟩
  · have e : PyData.eqv (.int (b.length : Int)) (.int (a.length : Int)) = false := by
      simp only [PyData.eqv]
      exact beq_false_of_ne (by omega)
    rw [e, if_neg (by decide)]
    exact decide_eq_true (by omega)
  · have e : PyData.eqv (.int (b.length : Int)) (.int (a.length : Int)) = true := by
      rw [h1]
      simp [PyData.eqv]
    have e2 : PyData.eqv (.list (b.map PyData.str)) (.list (a.map PyData.str)) = false := by
      have e3 : PyData.eqv (.list (b.map PyData.str)) (.list (a.map PyData.str)) = PyData.eqvAll (b.map PyData.str) (a.map PyData.str) := by simp [PyData.eqv]
      rw [e3, eqv_strs]
      exact decide_eq_false fun q => by
        rw [q] at h2
        exact List.lt_irrefl _ h2
    rw [e, if_pos rfl, e2, if_neg (by decide), er]
    exact decide_eq_true h2
theorem deep_pair {z : List Str} (ok : Oks z) (hl : z.length < 1000) : (pairD z).pl = true ∧ (pairD z).py.depth ≤ 2 := by
  have big : (1000 : Nat) < 2 ^ 60 := by decide
  have h1 : (D.int (z.length : Int)).pl = true := pl_nat (by omega)
  have h2 : (lstS z).pl = true := plL_of (deep_strs ok).1
  have h3 : (lstS z).py.depth ≤ 1 := Nat.succ_le_succ (depthAll_le (deep_strs ok).2)
  refine ⟨?_, Nat.succ_le_succ (depthAll_le (xs := [D.int (z.length : Int), lstS z]) fun x hx => ?_)⟩
  · show ((D.int (z.length : Int)).pl && ((lstS z).pl && true)) = true
    rw [h1, h2]
    rfl
  · rcases List.mem_cons.mp hx with rfl | hx
    · exact Nat.zero_le _
    · rw [List.mem_singleton.mp hx]
      exact h3
theorem q_notInP {z : List Str} {l : List (List Str)} {k : D → Prop} (hz : Oks z ∧ z.length < 1000) (hl : ∀ y ∈ l, Oks y ∧ y.length < 1000) (h : k (.bl (!decide (z ∈ l)))) : W.isIn true (pairD z) (.lst (l.map pairD)) k := by
  have dz := deep_pair hz.1 hz.2
  have dl : (D.lst (l.map pairD)).deep := by
    refine deepL (n := 2) (fun x hx => ?_) (fun x hx => ?_) (by decide)
    · obtain ⟨y, hy, rfl⟩ := List.mem_map.mp hx
      exact (deep_pair (hl y hy).1 (hl y hy).2).1
    · obtain ⟨y, hy, rfl⟩ := List.mem_map.mp hx
      exact (deep_pair (hl y hy).1 (hl y hy).2).2
  refine .inr (.inl ⟨_, rfl, ⟨dz.1, by omega⟩, dl, ?_⟩)
  have e : (true != (l.map pairD).any fun y => PyData.eqv y.py (pairD z).py) = !decide (z ∈ l) := by
    rw [List.any_map]
    have f : ((fun y : D => PyData.eqv y.py (pairD z).py) ∘ pairD) = fun y => decide (y = z) := funext fun y => eqv_pairD y z
    rw [f]
    have g : (l.any fun y => decide (y = z)) = decide (z ∈ l) := by
      rw [Bool.eq_iff_iff, List.any_eq_true, decide_eq_true_eq]
      constructor
      · rintro ⟨y, hy, e⟩
        rw [← of_decide_eq_true e]
        exact hy
      · exact fun h => ⟨z, h, decide_eq_true rfl⟩
    rw [g]
    cases decide (z ∈ l) <;> rfl
  rw [e]
  exact h
/-- sorted of such pairs: by size, then by the names -/
theorem q_sortPair {zs : List (List Str)} {k : D → Prop} (nd : zs.Nodup) (ok : ∀ z ∈ zs, Oks z ∧ z.length < 1000) (h : ∀ rows : List (List Str), rows.Perm zs → rows.Pairwise ltR → k (.lst (rows.map pairD))) : W.sortedA [.lst (zs.map pairD)] k := by
  have pm : (sortD (zs.map pairD)).Perm (zs.map pairD) := List.mergeSort_perm _ _
  have er : sortD (zs.map pairD) = ((sortD (zs.map pairD)).map unPair).map pairD := by
    rw [List.map_map]
    refine (List.map_id' _).symm.trans (List.map_congr_left fun x hx => ?_)
    obtain ⟨z, hz, rfl⟩ := List.mem_map.mp (pm.mem_iff.mp hx)
    show pairD z = pairD (unPair (pairD z))
    rw [unPair_pairD]
  have pr : ((sortD (zs.map pairD)).map unPair).Perm zs := by
    have q := pm.map unPair
    rw [List.map_map] at q
    refine q.trans (List.Perm.of_eq ((List.map_congr_left fun z hz => ?_).trans (List.map_id _)))
    exact unPair_pairD z
  have T1 := PySem.W.sortLe_total (PyProof.Rows.listOrd PyProof.Rows.itemOrd) false (fun d : D => PySem.W.keyToks d.py)
  have p1 : (sortD (zs.map pairD)).Pairwise (fun a b => dataLe false D.py a b = true) := List.pairwise_mergeSort T1.trans (tot T1.total) _
  have hk : k (.lst (sortD (zs.map pairD))) := by
    rw [er] at p1 ⊢
    generalize (sortD (zs.map pairD)).map unPair = rows at pr p1
    have nr : rows.Nodup := pr.nodup_iff.mpr nd
    refine h rows pr (List.pairwise_iff_forall_sublist.mpr fun {a b} hab => ?_)
    have q := List.pairwise_iff_forall_sublist.mp p1 (hab.map pairD)
    have ne : a ≠ b := fun e => by
      have := nr.sublist hab
      rw [e] at this
      exact (List.nodup_cons.mp this).1 List.mem_cons_self
    have q : dataLt (pairD b).py (pairD a).py = false := by
      have q : (!dataLt (pairD b).py (pairD a).py) = true := q
      rw [Bool.not_eq_true'] at q
      exact q
    refine Classical.byContradiction fun w => ?_
    have back : ltR b a := by
      rcases Nat.lt_trichotomy a.length b.length with z | z | z
      · exact absurd (.inl z) w
      · refine .inr ⟨z.symm, Classical.byContradiction fun v => ?_⟩
        exact ne (key_tri (fun y => w (.inr ⟨z, y⟩)) v)
      · exact .inl z
    rw [lt_pairD back] at q
    cases q
  refine .inr ⟨zs.map pairD, rfl, fun d hd => ?_, .inr ⟨?_, .inl ?_, ?_⟩, hk⟩
  · obtain ⟨z, hz, rfl⟩ := List.mem_map.mp hd
    exact (deep_pair (ok z hz).1 (ok z hz).2).1
  · intro d hd e he
    rw [pyL_map] at hd he
    obtain ⟨d', hd', rfl⟩ := List.mem_map.mp hd
    obtain ⟨e', he', rfl⟩ := List.mem_map.mp he
    obtain ⟨a, _, rfl⟩ := List.mem_map.mp hd'
    obtain ⟨b, _, rfl⟩ := List.mem_map.mp he'
    rw [pairD_py, pairD_py]
    have := alike_strs a b
    simpa [alike, alikeAll] using this
  · intro d hd
    rw [pyL_map] at hd
    obtain ⟨d', hd', rfl⟩ := List.mem_map.mp hd
    obtain ⟨a, _, rfl⟩ := List.mem_map.mp hd'
    exact ⟨_, _, pairD_py a⟩
  · intro d hd
    obtain ⟨z, hz, rfl⟩ := List.mem_map.mp hd
    have := (deep_pair (ok z hz).1 (ok z hz).2).2
    omega
end Dw

/-! M02b: what k02's defs ask. -/
namespace Dw
open PySem PySem.Spec PyProof.Rows L2
open PySem.W (dataLe dataLt)
def sortN (l : List Str) : List Str := l.mergeSort (dataLe false fun s : Str => PyData.str s)
theorem sortN_perm (l : List Str) : (sortN l).Perm l := List.mergeSort_perm _ _
theorem sortN_pw {l : List Str} (nd : l.Nodup) : (sortN l).Pairwise ltS := by
  have T1 := PySem.W.sortLe_total (PyProof.Rows.listOrd PyProof.Rows.itemOrd) false (fun s : Str => PySem.W.keyToks (PyData.str s))
  have p1 : (sortN l).Pairwise (fun a b => dataLe false (fun s : Str => PyData.str s) a b = true) := List.pairwise_mergeSort T1.trans (tot T1.total) _
  have nd2 : (sortN l).Nodup := (sortN_perm l).nodup_iff.mpr nd
  refine (p1.and nd2).imp fun {a b} z => ?_
  have e := congrFun (congrFun (PySem.W.dataLe_str fun s : Str => s) a) b
  have z1 := z.1
  rw [e, decide_eq_true_eq] at z1
  show a.cps.toList < b.cps.toList
  refine Classical.byContradiction fun q => z.2 (str_ext (List.le_antisymm z1 ?_))
  exact List.not_lt.mp q
/-- no later one within an earlier one -/
theorem apart_of {ns : List Str} (nd : ns.Nodup) {l : List (List Str)} (h : l.Pairwise ltR) (hs : ∀ z ∈ l, z.Sublist ns) : l.Pairwise fun a b => subL b a = false := h.imp_of_mem fun {a b} ha hb hab => by
  rw [Bool.eq_false_iff]
  intro q
  have sb : b.Sublist a := by
    have h1 := canon_of nd (hs b hb)
    have h2 : canon ns b = a.filter fun n => decide (n ∈ b) := by
      have h3 := canon_of nd (hs a ha)
      rw [← h3]
      unfold canon
      rw [List.filter_filter]
      refine List.filter_congr fun m _ => ?_
      by_cases w : m ∈ b
      · simp [w, subL_iff.mp q m w]
      · simp [w]
    rw [← h1, h2]
    exact List.filter_sublist
  have l := sb.length_le
  rcases hab with w | w
  · omega
  · have e := sb.eq_of_length w.1.symm
    rw [e] at w
    exact List.lt_irrefl _ w.2
theorem q_joinP {m : (D → Prop) → Prop} {k : D → Prop} (p : D → Prop) (h : ∀ K : D → Prop, (∀ x, p x → K x) → m K) (hk : ∀ x, p x → k x) : W.join m k := h k hk
theorem q_handed {body : D → (Option D → Prop) → Prop} {k : D → Prop} : ∀ {l : List (List Str)} {acc : List D}, (∀ z q, q (some (lstS z)) → q (some (tupS z)) → body (lstS z) q) → (∀ ps : List (List Str × Bool), ps.map (·.1) = l → k (.lst (acc ++ ps.map rowD))) → W.comp body (l.map lstS) acc k
  | [], acc, _, h => by
    have := h [] rfl
    rw [List.map_nil, List.append_nil] at this
    exact this
  | z :: l, acc, hb, h => by
    have step : ∀ b : Bool, W.comp body (l.map lstS) (acc ++ [rowD (z, b)]) k := fun b => q_handed hb fun ps hp => by
      have := h ((z, b) :: ps) (by rw [List.map_cons, hp])
      rw [List.append_assoc]
      exact this
    exact hb z _ (step true) (step false)
theorem q_subl {body : D → (Option D → Prop) → Prop} {k : D → Prop} : ∀ {l : List Str} {acc : List D}, (∀ s ∈ l, ∀ q, q (some (.str s)) → q none → body (.str s) q) → (∀ ls : List Str, ls.Sublist l → k (.lst (acc ++ ls.map D.str))) → W.comp body (l.map D.str) acc k
  | [], acc, _, h => by
    have := h [] (List.Sublist.refl _)
    rw [List.map_nil, List.append_nil] at this
    exact this
  | s :: l, acc, hb, h => by
    refine hb s List.mem_cons_self _ (q_subl (fun x hx => hb x (List.mem_cons_of_mem _ hx)) fun ls hs => ?_) (q_subl (fun x hx => hb x (List.mem_cons_of_mem _ hx)) fun ls hs => ?_)
    · have := h (s :: ls) (hs.cons_cons s)
      rw [List.append_assoc]
      exact this
    · have := h ls (hs.cons s)
      show k (.lst (acc ++ [] ++ ls.map D.str))
      rw [List.append_nil]
      exact this
theorem m_some {l : List Str} {n : Nat} {k : D → Prop} (n0 : 0 < n) (n1 : n < 1000) (hl : l.length < 1000) (h : ∀ ls : List Str, ls.Sublist l → k (.lst (ls.map D.str))) : p__law_some (.lst (l.map D.str)) (.int (n : Int)) k := by
  have s1 : (1000 : Nat) < sizeLine := by decide
  unfold p__law_some
  exact q_seq (.inl rfl) ⟨by rw [List.length_map]; omega, q_subl (fun s _ q h1 h2 => q_draw (by omega) (by omega) fun m _ => q_eqI (q_t (q_dec (fun _ => h1) fun _ => h2))) fun ls hs => h ls hs⟩
theorem q_ixB {a b c d e f : Int} {m : Nat} {k : D → Prop} (hm : (m : Int) < 6) (h : ∀ n : Nat, n ≤ 8 → k (.int (n : Int))) (ha : 0 ≤ a ∧ a ≤ 8) (hb : 0 ≤ b ∧ b ≤ 8) (hc : 0 ≤ c ∧ c ≤ 8) (hd : 0 ≤ d ∧ d ≤ 8) (he : 0 ≤ e ∧ e ≤ 8) (hf : 0 ≤ f ∧ f ≤ 8) :
    W.ix (D.lst [.int a, .int b, .int c, .int d, .int e, .int f]) (.int (m : Int)) k := by
  have go : ∀ x : Int, 0 ≤ x ∧ x ≤ 8 → k (.int x) := fun x hx => by
    obtain ⟨i, rfl⟩ := Int.eq_ofNat_of_zero_le hx.1
    exact h i (by omega)
  match m, hm with
  | 0, _ => exact q_ixL (i := 0) rfl (go _ ha)
  | 1, _ => exact q_ixL (i := 1) rfl (go _ hb)
  | 2, _ => exact q_ixL (i := 2) rfl (go _ hc)
  | 3, _ => exact q_ixL (i := 3) rfl (go _ hd)
  | 4, _ => exact q_ixL (i := 4) rfl (go _ he)
  | 5, _ => exact q_ixL (i := 5) rfl (go _ hf)
  | m + 6, hm => omega
theorem q_int01 {c : Prop} [Decidable c] {k : D → Prop} (h : ∀ j : Nat, j ≤ 1 → k (.int (j : Int))) : W.int1 [.bl (decide c)] k := by
  show k (.int (if decide c = true then 1 else 0))
  by_cases e : c
  · rw [if_pos (decide_eq_true e)]
    exact h 1 (by decide)
  · rw [if_neg (by rw [decide_eq_false e]; decide)]
    exact h 0 (by decide)
theorem m_drawn {nl : List Str} {k : D → Prop} (hl : nl.length ≤ 8) (h : ∀ zs : List (List Str), zs.length ≤ 40 → (∀ z ∈ zs, z.length ≤ 20 ∧ ∀ s ∈ z, s ∈ nl) → k (.lst (zs.map lstS))) : p__law_drawn_sets (.lst (nl.map D.str)) k := by
  have s1 : (2000 : Nat) < sizeLine := by decide
  have s60 : (2000 : Nat) < 2 ^ 60 := by decide
  unfold p__law_drawn_sets
  refine q_draw (by decide) (by decide) fun m hm => q_draw (by decide) (by decide) fun m2 _ => q_eqI (q_int01 fun j hj => ?_)
  have go : ∀ n : Nat, n ≤ 40 → W.range1 (.int (n : Int)) fun xs23 => W.forL (S := (List D)) (fun y6 s7 n8 b9 => W.len [(.lst (nl.map D.str))] fun v11 => W.draw (D.int 8) fun v12 => W.ix (D.lst [(D.int 0), (D.int 1), (D.int 1), (D.int 2), (D.int 2), (D.int 3), (D.int 3), v11]) v12 fun v10 => p__law_mixed (.lst (nl.map D.str)) fun v14 => W.part v10 fun o15 => W.sl v14 none o15 fun v13 => W.draw (D.int 4) fun v21 => W.eq v21 (D.int 0) fun v20 => W.int1 [v20] fun v19 => W.part v19 fun o18 => W.sl v13 none o18 fun v17 => W.add v13 v17 fun v16 => s7.length < sizeLine ∧ n8 (s7 ++ [v16])) xs23 [] fun s22 => k (D.lst s22) := fun n hn => by
    refine q_range (by omega) (q_forI (fun xs s => ∃ zs : List (List Str), s = zs.map lstS ∧ zs.length + xs.length ≤ 40 ∧ ∀ z ∈ zs, z.length ≤ 20 ∧ ∀ s ∈ z, s ∈ nl) ?_ ?_ ⟨[], rfl, by rw [List.length_map, List.length_range]; exact (Nat.zero_add n).symm ▸ hn, fun z hz => (nomatch hz)⟩)
    · rintro s ⟨zs, rfl, hz, hm⟩
      exact h zs (by simpa using hz) hm
    · rintro x xs s n8 ⟨zs, rfl, hz, hmem⟩ hn8
      rw [List.length_cons] at hz
      have rest : ∀ r : Nat, r ≤ 8 → p__law_mixed (.lst (nl.map D.str)) fun v14 => W.part (.int (r : Int)) fun o15 => W.sl v14 none o15 fun v13 => W.draw (D.int 4) fun v21 => W.eq v21 (D.int 0) fun v20 => W.int1 [v20] fun v19 => W.part v19 fun o18 => W.sl v13 none o18 fun v17 => W.add v13 v17 fun v16 => (zs.map lstS).length < sizeLine ∧ n8 (zs.map lstS ++ [v16]) := fun r hr => by
        refine q_mixed (.inl rfl) (by omega) fun us pm => q_part (q_slTo (n := r) (q_draw (by decide) (by decide) fun m4 _ => q_eqI (q_int01 fun j hj => q_part (q_slTo (n := j) (q_addL ?_ ⟨by rw [List.length_map]; omega, hn8 _ ⟨zs ++ [us.take r ++ (us.take r).take j], by simp [lstS], by rw [List.length_append, List.length_singleton]; omega, fun z hzm => ?_⟩⟩)))))
        · rw [List.length_take, List.length_take, List.length_take]
          omega
        · rcases List.mem_append.mp hzm with hzm | hzm
          · exact hmem z hzm
          · rw [List.mem_singleton.mp hzm]
            refine ⟨by rw [List.length_append, List.length_take, List.length_take, List.length_take]; omega, fun s hs => pm.mem_iff.mp ?_⟩
            rcases List.mem_append.mp hs with hs | hs
            · exact List.mem_of_mem_take hs
            · exact List.mem_of_mem_take (List.mem_of_mem_take hs)
      refine q_lenL (n := nl.length) (by rw [List.length_map]) (q_draw (by decide) (by decide) fun m3 hm3 => ?_)
      match m3, hm3 with
      | 0, _ => exact q_ixL (i := 0) rfl (rest 0 (by decide))
      | 1, _ => exact q_ixL (i := 1) rfl (rest 1 (by decide))
      | 2, _ => exact q_ixL (i := 2) rfl (rest 1 (by decide))
      | 3, _ => exact q_ixL (i := 3) rfl (rest 2 (by decide))
      | 4, _ => exact q_ixL (i := 4) rfl (rest 2 (by decide))
      | 5, _ => exact q_ixL (i := 5) rfl (rest 3 (by decide))
      | 6, _ => exact q_ixL (i := 6) rfl (rest 3 (by decide))
      | 7, _ => exact q_ixL (i := 7) rfl (rest nl.length hl)
      | m + 8, hm => omega
  match j, hj with
  | 0, _ => exact q_ixL (i := 0) (d := .int (m : Int)) rfl (go m (by omega))
  | 1, _ => exact q_ixL (i := 1) (d := .int 40) rfl (go 40 (by decide))
/-- the law's least sets are the rule's -/
theorem m_lawleast {ns : List Str} {zs rows : List (List Str)} {k : D → Prop} (pn : ns.Pairwise ltS) (hl : ns.length ≤ 8) (okn : Oks ns) (hz : ∀ z ∈ zs, ∀ n ∈ z, n ∈ ns) (zl : zs.length ≤ 40) (z20 : ∀ z ∈ zs, z.length ≤ 20) (hr : IsLeast zs rows) (h : k (.tup (rows.map tupS))) : p__law_least (.lst (zs.map lstS)) k := by
  have s1 : (2000 : Nat) < sizeLine := by decide
  have s2 : (3000 : Nat) < scanBound := by decide +kernel
  have nd := nodup_pw pn
  obtain ⟨rr, rm⟩ := hr.mem pn hz
  have cl : ∀ z, (canon ns z).length < 1000 := fun z => by have := canon_len (ns := ns) (z := z); omega
  have cok : ∀ z, Oks (canon ns z) := fun z s hs => okn s (mem_canon.mp hs).1
  unfold p__law_least
  refine q_seq (.inl rfl) (q_forI (fun xs s => ∃ (done rest : List (List Str)) (plain : List (List Str)), zs = done ++ rest ∧ xs = rest.map lstS ∧ s = plain.map pairD ∧ plain.Nodup ∧ plain.length ≤ done.length ∧ ∀ y, y ∈ plain ↔ ∃ z ∈ done, y = canon ns z) ?_ ?_ ⟨[], zs, [], rfl, rfl, rfl, List.nodup_nil, Nat.le_refl _, fun y => ⟨fun q => (nomatch q), fun ⟨z, q, _⟩ => (nomatch q)⟩⟩)
  · rintro s ⟨done, rest, plain, er, ex, rfl, ndp, lp, mp⟩
    have erest : rest = [] := List.map_eq_nil_iff.mp ex.symm
    rw [erest, List.append_nil] at er
    subst er
    have pok : ∀ y ∈ plain, Oks y ∧ y.length < 1000 := fun y hy => by
      obtain ⟨z, _, rfl⟩ := (mp y).mp hy
      exact ⟨cok z, cl z⟩
    refine q_sortPair ndp pok fun rows2 pr rise => q_seq (.inl rfl) ?_
    have l2 : rows2.length ≤ 40 := by rw [pr.length_eq]; omega
    have m2 : ∀ y, y ∈ rows2 ↔ ∃ z ∈ zs, y = canon ns z := fun y => pr.mem_iff.trans (mp y)
    have sub2 : ∀ y ∈ rows2, y.Sublist ns := fun y hy => by
      obtain ⟨z, _, rfl⟩ := (m2 y).mp hy
      exact canon_sub _ _
    have ok2 : ∀ y ∈ rows2, Oks y ∧ y.length < 1000 := fun y hy => pok y (pr.mem_iff.mp hy)
    have due : keep subL [] rows2 = rows := by
      obtain ⟨sl, ks⟩ := keep_spec (sub := subL) subL_refl subL_trans (apart_of nd rise sub2)
      refine rise_eq ltR_asym (rise.sublist sl) rr fun y => ((ks y).trans ?_).trans (rm y).symm
      have cs : ∀ a ∈ zs, ∀ b : List Str, subL (canon ns a) (canon ns b) = true ↔ ∀ n ∈ a, n ∈ b := fun a ha b => by
        rw [subL_iff]
        constructor
        · exact fun q n hn => (mem_canon.mp (q n (mem_canon.mpr ⟨hz a ha n hn, hn⟩))).2
        · exact fun q n hn => mem_canon.mpr ⟨(mem_canon.mp hn).1, q n (mem_canon.mp hn).2⟩
      constructor
      · rintro ⟨h1, h3⟩
        obtain ⟨z0, hz0, rfl⟩ := (m2 y).mp h1
        refine ⟨z0, hz0, rfl, fun z1 hz1 w => ?_⟩
        have e := h3 (canon ns z1) ((m2 _).mpr ⟨z1, hz1, rfl⟩) ((cs z1 hz1 z0).mpr w)
        exact (cs z0 hz0 z1).mp (by rw [e]; exact subL_refl _)
      · rintro ⟨z0, hz0, rfl, hmin⟩
        refine ⟨(m2 _).mpr ⟨z0, hz0, rfl⟩, fun y' hy' w => ?_⟩
        obtain ⟨z1, hz1, rfl⟩ := (m2 y').mp hy'
        have w1 := (cs z1 hz1 z0).mp w
        exact canon_congr fun n => ⟨w1 n, hmin z1 hz1 w1 n⟩
    refine q_forI (fun xs s => ∃ acc rest : List (List Str), xs = rest.map pairD ∧ s = acc.map tupS ∧ acc.length + rest.length < 1000 ∧ (∀ z ∈ acc, Oks z ∧ z.length < 1000) ∧ (∀ z ∈ rest, Oks z ∧ z.length < 1000) ∧ keep subL acc rest = keep subL [] rows2) ?_ ?_ ⟨[], rows2, rfl, rfl, by rw [List.length_nil]; omega, fun z hz => (nomatch hz), ok2, rfl⟩
    · rintro s ⟨acc, rest, ex, rfl, _, _, _, ek⟩
      have er : rest = [] := List.map_eq_nil_iff.mp ex.symm
      subst er
      have ek : acc = keep subL [] rows2 := ek
      rw [due] at ek
      subst ek
      exact q_tupleOf h
    · rintro x xs s n ⟨acc, rest, ex, rfl, hsz, ha, hre, ek⟩ hn
      match rest, ex with
      | [], ex => cases ex
      | z :: rest, ex =>
        obtain ⟨rfl, rfl⟩ := List.cons.inj ex
        rw [List.length_cons] at hsz
        have hzm := hre z List.mem_cons_self
        have hre' : ∀ y ∈ rest, Oks y ∧ y.length < 1000 := fun y hy => hre y (List.mem_cons_of_mem _ hy)
        refine q_un2 (q_comp tupS (fun o => if subL o z then some (tupS o) else none) (by omega) (fun o ho q hq => m_within (.inr rfl) (.inl rfl) (by have := (ha o ho).2; omega) (ha o ho).1 (q_t ?_)) ?_)
        · show W.ite (subL o z) _ _
          cases e2 : subL o z with
          | true =>
            rw [e2] at hq
            exact q_T hq
          | false =>
            rw [e2] at hq
            exact q_F hq
        · rw [filterMap_if]
          refine q_eqNilR (fun y hy => (ha y (List.mem_filter.mp hy).1).1) (q_t ?_)
          have ee : (acc.filter fun o => subL o z).isEmpty = !acc.any fun o => subL o z := by
            rw [Bool.eq_iff_iff, List.isEmpty_iff, List.filter_eq_nil_iff]
            simp
          rw [ee]
          have kc : keep subL acc (z :: rest) = if (acc.any fun k => subL k z) = true then keep subL acc rest else keep subL (acc ++ [z]) rest := by
            conv => lhs; unfold keep
          rw [kc] at ek
          cases e3 : acc.any fun o => subL o z with
          | true =>
            rw [e3, if_pos rfl] at ek
            exact q_F (hn _ ⟨acc, rest, rfl, rfl, by omega, ha, hre', ek⟩)
          | false =>
            rw [e3, if_neg (by decide)] at ek
            refine q_T (q_tupleOf ⟨by rw [List.length_map]; omega, hn _ ⟨acc ++ [z], rest, rfl, by rw [List.map_append]; rfl, by rw [List.length_append, List.length_singleton]; omega, fun y hy => ?_, hre', ek⟩⟩)
            rcases List.mem_append.mp hy with hy | hy
            · exact ha y hy
            · rw [List.mem_singleton.mp hy]
              exact hzm
  · rintro x xs s n ⟨done, rest, plain, er, ex, rfl, ndp, lp, mp⟩ hn
    match rest, ex with
    | [], ex => cases ex
    | z :: rest, ex =>
      obtain ⟨rfl, rfl⟩ := List.cons.inj ex
      have hzm : z ∈ zs := by rw [er]; simp
      have dl : done.length < 40 := by
        have := congrArg List.length er
        rw [List.length_append, List.length_cons] at this
        omega
      have l20 := z20 z hzm
      refine ⟨z, .inl rfl, by omega, fun l ndl ml => ⟨z, .inl rfl, by omega, ⟨ns, by omega, hz z hzm⟩, fun ys ndy so my => ?_⟩⟩
      have ey : ys = canon ns z := rise_eq ltS_asym (sorted_pw ndy so) (pn.filter _) fun m => by
        show m ∈ ys ↔ m ∈ canon ns z
        rw [mem_canon, my m]
        exact ⟨fun q => ⟨hz z hzm m q, q⟩, fun q => q.2⟩
      have el : l.length = ys.length := ((List.perm_ext_iff_of_nodup ndl ndy).mpr fun m => (ml m).trans (my m).symm).length_eq
      have ed : D.tup [.int (l.length : Int), .lst (ys.map D.str)] = pairD (canon ns z) := by
        rw [el, ey]
        rfl
      show W.isIn true (D.tup [.int (l.length : Int), .lst (ys.map D.str)]) _ _
      rw [ed]
      have next : ∀ plain' : List (List Str), plain'.Nodup → plain'.length ≤ plain.length + 1 → (∀ y, y ∈ plain' ↔ y ∈ plain ∨ y = canon ns z) → n (plain'.map pairD) := fun plain' n1 n2 n3 => hn _ ⟨done ++ [z], rest, plain', by rw [er, List.append_assoc]; rfl, rfl, rfl, n1, by rw [List.length_append, List.length_singleton]; omega, fun y => by
        rw [n3 y, mp y]
        constructor
        · rintro (⟨w, hw, e⟩ | e)
          · exact ⟨w, List.mem_append_left _ hw, e⟩
          · exact ⟨z, List.mem_append_right _ (List.mem_singleton.mpr rfl), e⟩
        · rintro ⟨w, hw, e⟩
          rcases List.mem_append.mp hw with hw | hw
          · exact .inl ⟨w, hw, e⟩
          · rw [List.mem_singleton.mp hw] at e
            exact .inr e⟩
      refine q_notInP ⟨cok z, cl z⟩ (fun y hy => by
        obtain ⟨w, _, rfl⟩ := (mp y).mp hy
        exact ⟨cok w, cl w⟩) (q_t (q_decN (fun hnot => ?_) fun hin => ?_))
      · refine ⟨by rw [List.length_map]; omega, ?_⟩
        have := next (plain ++ [canon ns z]) (List.nodup_append.mpr ⟨ndp, List.nodup_cons.mpr ⟨List.not_mem_nil, List.nodup_nil⟩, fun a ha b hb e => hnot (by rw [← List.mem_singleton.mp hb, ← e]; exact ha)⟩) (by rw [List.length_append, List.length_singleton]; omega) (fun y => by rw [List.mem_append, List.mem_singleton])
        rw [List.map_append] at this
        exact this
      · exact next plain ndp (by omega) fun y => ⟨.inl, fun q => q.elim id fun e => by rw [e]; exact hin⟩
end Dw

/-! M02c: the law of rules of sets. -/
namespace Dw
open PySem PySem.Spec PyProof.Rows L2
theorem q_mul01 {α : Type} {f : α → D} {us : List α} {j : Nat} {k : D → Prop} (hj : j ≤ 1) (hl : us.length < 1000) (h : k (.lst ((List.replicate j us).flatten.map f))) : W.mul (.lst (us.map f)) (.int (j : Int)) k := by
  have s1 : (2000 : Nat) < sizeLine := by decide
  refine (show (-(2 ^ 62) ≤ (j : Int) ∧ (j : Int) ≤ 2 ^ 62) ∧ (us.map f).length * (Int.toNat (j : Int)) ≤ sizeLine ∧ k (.lst (List.replicate (Int.toNat (j : Int)) (us.map f)).flatten) from ⟨by omega, ?_, ?_⟩)
  · rw [List.length_map, Int.toNat_natCast]
    have := Nat.mul_le_mul_left us.length hj
    omega
  · rw [Int.toNat_natCast]
    have e : (List.replicate j (us.map f)).flatten = (List.replicate j us).flatten.map f := by
      rw [List.map_flatten, List.map_replicate]
    rw [e]
    exact h
theorem m_holdsL {x y : D} {zs : List (List Str)} {b : List Str} {k : D → Prop} (hx : x = .lst (zs.map lstS)) (hy : Row y b) (hz : zs.length < sizeLine) (hs : ∀ z ∈ zs, z.length < sizeLine ∧ Oks z) (h : k (.bl (holdsN zs b))) : p__law_holds x y k := by
  unfold p__law_holds
  refine q_seq (.inl hx) (q_comp lstS (fun z => some (.bl (z.all fun s => decide (s ∈ b)))) hz (fun z hzm q hq => ?_) ?_)
  · refine q_seq (.inl rfl) (q_comp D.str (fun s => if (!decide (s ∈ b)) then some (.str s) else none) (hs z hzm).1 (fun s _ q2 h2 => q_inS hy (q_t ?_)) ?_)
    · show W.ite (true != decide (s ∈ b)) _ _
      by_cases e : s ∈ b
      · rw [decide_eq_true e] at h2 ⊢
        exact q_F h2
      · rw [decide_eq_false e] at h2 ⊢
        exact q_T h2
    · rw [filterMap_if]
      refine q_eqNil ((hs z hzm).2.filter _) ?_
      rw [all_filter]
      exact hq
  · rw [filterMap_some]
    exact q_inT h
theorem q_neRL {a b : List (List Str)} {k : D → Prop} (ha : ∀ z ∈ a, Oks z) (hb : ∀ z ∈ b, Oks z) (h : k (.bl (!decide (a = b)))) : W.ne (.lst (a.map tupS)) (.lst (b.map tupS)) k := by
  refine .inr ⟨deep_rowsL ha, deep_rowsL hb, ?_⟩
  have e : PyData.eqv (D.lst (a.map tupS)).py (D.lst (b.map tupS)).py = decide (a = b) := eqv_rowsL a b
  rw [e]
  exact h
theorem q_neNilRL {a : List (List Str)} {k : D → Prop} (ha : ∀ z ∈ a, Oks z) (h : k (.bl (!a.isEmpty))) : W.ne (.lst (a.map tupS)) (.lst []) k := by
  have := q_neRL (a := a) (b := []) (k := k) ha (fun z hz => nomatch hz) (by
    have e : decide (a = []) = a.isEmpty := by cases a <;> rfl
    rw [e]
    exact h)
  exact this
theorem q_tupRow {x : D} {b : List Str} {k : D → Prop} (hx : Row x b) (h : k (tupS b)) : W.tupleOf [x] k := by
  rcases hx with rfl | rfl <;> exact h
theorem q_ixRow {b : List Str} {j : Nat} {k : D → Prop} (hj : (j : Int) < 2) (h : ∀ x, Row x b → k x) : W.ix (.lst [.lst (b.map D.str), .tup (b.map D.str)]) (.int (j : Int)) k := by
  match j, hj with
  | 0, _ => exact q_ixL (i := 0) rfl (h _ (.inl rfl))
  | 1, _ => exact q_ixL (i := 1) rfl (h _ (.inr rfl))
  | j + 2, hj => omega
theorem m_law {c : Cn} (hkR : c.kit (.ref c.Rule) (.ref c.Rule) = some true) (hkB : c.kit (.type "bool") (.type "bool") = some true) (xs0 : List Int) (h63 : xs0.length ≤ 63) : p_law c (.lst (xs0.map D.int)) (fun d => d = .bl true) := by
  have s1 : (2000 : Nat) < sizeLine := by decide
  have s60 : (2000 : Nat) < 2 ^ 60 := by decide
  unfold p_law
  refine q_part (q_slTo (n := 2) (q_lenL (n := (xs0.take 2).length) (by rw [List.length_map]) (q_addI (a := 2) (q_range (by have := List.length_take_le 2 xs0; omega) (q_forI (fun _ _ => True) (fun _ _ => rfl) ?_ trivial)))))
  intro _ _ _ n14 _ hn14
  refine q_draw (by decide) (by decide) fun m hm => q_ixB hm (fun many h8 => ⟨(many : Int), rfl, by omega, by omega, fun ws gd => ?_⟩) (by decide) (by decide) (by decide) (by decide) (by decide) (by decide)
  rw [← strs_names]
  have nd0 : (ws.map tx).Nodup := List.pairwise_map.mpr (gd.2.1.imp fun h e => h (tx_inj e))
  have len0 : (ws.map tx).length ≤ 8 := by rw [List.length_map, gd.1]; omega
  have nm0 : ∀ s ∈ ws.map tx, NameS s := fun s hs => by
    obtain ⟨w, hw, rfl⟩ := List.mem_map.mp hs
    exact ⟨w, gd.2.2 w hw, rfl⟩
  clear gd hm
  generalize ws.map tx = nl at nd0 len0 nm0
  have pm := sortN_perm nl
  have pw := sortN_pw nd0
  have len : (sortN nl).length ≤ 8 := by rw [pm.length_eq]; exact len0
  have nm : ∀ s ∈ sortN nl, NameS s := fun s hs => nm0 s (pm.mem_iff.mp hs)
  have okn : Oks (sortN nl) := fun s hs => (nm s hs).strOk
  refine m_drawn len0 fun zs zl hzs => ?_
  have hz : ∀ z ∈ zs, ∀ n ∈ z, n ∈ sortN nl := fun z hzm n hn => pm.mem_iff.mpr ((hzs z hzm).2 n hn)
  have zok : ∀ z ∈ zs, Oks z := fun z hzm s hs => okn s (hz z hzm s hs)
  -- the rows are handed over
  refine q_seq (.inl rfl) ⟨by rw [List.length_map]; omega, q_handed (fun z q h1 h2 => q_draw (by decide) (by decide) fun m _ => q_eqI (q_t (q_dec (fun _ => h1) fun _ => h2))) fun ps hps => ⟨_, rfl, ?_⟩⟩
  rw [List.nil_append]
  have lps : ps.length = zs.length := by rw [← hps, List.length_map]
  refine q_joinP (fun x => x = .lst (ps.map rowD) ∨ x = .tup (ps.map rowD)) (fun K hK => q_draw (by decide) (by decide) fun m _ => q_eqI (q_t (q_dec (fun _ => hK _ (.inl rfl)) fun _ => hK _ (.inr rfl)))) fun x hx => ?_
  refine m_of_mixed hx ⟨sortN nl, by omega, okn, by rw [hps]; exact hz⟩ (by omega) fun rows ys hr hy => ?_
  rw [hps] at hr
  obtain ⟨rr, rm⟩ := hr.mem pw hz
  have g := good_rows pw len nm hz (by omega) hr hy
  have rl : rows.length ≤ 40 := Nat.le_trans hr.len zl
  have rs : ∀ z ∈ rows, z.length ≤ 8 := fun z hzm => by
    obtain ⟨z0, _, rfl, _⟩ := (rm z).mp hzm
    exact Nat.le_trans canon_len len
  have rmem : ∀ z ∈ rows, ∀ n ∈ z, n ∈ sortN nl := fun z hzm n hn => by
    obtain ⟨z0, _, rfl, _⟩ := (rm z).mp hzm
    exact (mem_canon.mp hn).1
  have rok : ∀ z ∈ rows, Oks z := fun z hzm s hs => okn s (rmem z hzm s hs)
  refine ⟨_, rfl, ruleD_noL c rows ys, m_lawleast pw len okn hz zl (fun z hzm => (hzs z hzm).1) hr ⟨_, rfl, rows_noL rows, ?_⟩⟩
  -- they are what they were
  refine q_seq (.inl rfl) (q_comp rowD (fun p => some (tupS p.1)) (by omega) (fun p _ q hq => q_tupRow (rowD_row p) hq) ?_)
  rw [filterMap_some]
  have e1 : (ps.map fun p => tupS p.1) = zs.map tupS := by rw [← hps, List.map_map]; rfl
  rw [e1]
  refine q_seq (.inl rfl) (q_comp lstS (fun z => some (tupS z)) (by omega) (fun z _ q hq => hq) ?_)
  rw [filterMap_some]
  refine q_neRL zok zok (q_t ⟨by rw [decide_eq_true rfl]; rfl, ?_⟩)
  -- the names that the least sets hold
  refine .inl (.inr ⟨nl, rfl, by omega, fun ms pms so => ?_⟩)
  have pwm := sorted_pw (pms.nodup_iff.mpr nd0) so
  have lms : ms.length ≤ 8 := by rw [pms.length_eq]; exact len0
  refine q_seq (.inl rfl) (q_comp D.str (fun s => if (!(rows.filter fun z => decide (s ∈ z)).isEmpty) then some (.str s) else none) (by omega) (fun s _ q hq => ?_) ?_)
  · refine q_seq (.inr rfl) (q_comp tupS (fun z => if decide (s ∈ z) then some (tupS z) else none) (by omega) (fun z hzm q2 h2 => q_inS (.inr rfl) (q_t ?_)) ?_)
    · show W.ite (false != decide (s ∈ z)) _ _
      by_cases e : s ∈ z
      · rw [decide_eq_true e] at h2 ⊢
        exact q_T h2
      · rw [decide_eq_false e] at h2 ⊢
        exact q_F h2
    · rw [filterMap_if]
      refine q_neNilRL (fun z hzm => rok z (List.mem_filter.mp hzm).1) (q_t ?_)
      cases e : (!(rows.filter fun z => decide (s ∈ z)).isEmpty) with
      | true =>
        rw [e] at hq
        exact q_T hq
      | false =>
        rw [e] at hq
        exact q_F hq
  rw [filterMap_if]
  have ey : (ms.filter fun s => !(rows.filter fun z => decide (s ∈ z)).isEmpty) = ys := by
    refine rise_eq ltS_asym (pwm.filter _) (sorted_pw hy.1 hy.2.1) fun n => ?_
    rw [List.mem_filter, hy.2.2 n]
    have e : (!(rows.filter fun z => decide (n ∈ z)).isEmpty) = true ↔ ∃ z ∈ rows, n ∈ z := by
      rw [Bool.not_eq_true', Bool.eq_false_iff, Ne, List.isEmpty_iff, List.filter_eq_nil_iff]
      constructor
      · intro q
        refine Classical.byContradiction fun w => q fun z hzm => ?_
        rw [decide_eq_true_eq]
        exact fun v => w ⟨z, hzm, v⟩
      · rintro ⟨z, hzm, hn⟩ q
        exact q z hzm (decide_eq_true hn)
    rw [e]
    exact ⟨fun q => q.2, fun ⟨z, hzm, hn⟩ => ⟨pms.mem_iff.mpr (pm.mem_iff.mp (rmem z hzm n hn)), z, hzm, hn⟩⟩
  rw [ey]
  refine q_join (m_fld_least (q_repr g.okR (q_repr g.okR (q_neS (q_t ?_)))))
  rw [decide_eq_true rfl]
  refine q_F (m_fld_names (q_repr g.okY (q_tupleOf (q_repr g.okY (q_neS (q_t ?_))))))
  rw [decide_eq_true rfl]
  refine q_F (q_range (n := 10) (by decide) (q_forI (fun _ _ => True) ?_ ?_ trivial))
  · intro _ _
    refine m_fld_least (q_repr g.okR (q_repr g.okR (q_neS (q_t ?_))))
    rw [decide_eq_true rfl]
    exact q_F (hn14 () trivial)
  · intro _ _ _ n49 _ hn49
    refine q_draw (by decide) (by decide) fun m1 hm1 => q_addI (a := 1) (m_some (by omega) (by omega) (by omega) fun ls hls => ?_)
    have ll := hls.length_le
    refine q_draw (by decide) (by decide) fun j hj => q_mul01 (us := ["zzzzzz"]) (f := D.str) (by omega) (by decide) ?_
    have lr : (List.replicate j (["zzzzzz"] : List Str)).flatten.length ≤ 1 := by
      match j, hj with
      | 0, _ => decide
      | 1, _ => decide
      | j + 2, hj => omega
    refine q_addL (by omega) ?_
    have la : (ls ++ (List.replicate j (["zzzzzz"] : List Str)).flatten).length ≤ 9 := by rw [List.length_append]; omega
    generalize ls ++ (List.replicate j (["zzzzzz"] : List Str)).flatten = ps2 at la
    refine q_draw (by decide) (by decide) fun j2 _ => q_part (q_slTo (n := j2) (q_addL (by rw [List.length_take]; omega) (q_tupleOf (q_draw (by decide) (by decide) fun j3 hj3 => q_ixRow hj3 fun x3 hx3 => ?_))))
    have eqH : holdsN rows (ps2 ++ ps2.take j2) = holdsN zs (ps2 ++ ps2.take j2) := any_least hz rm _
    refine q_join ⟨⟨_, _, rfl⟩, m_call hx3 (by omega) (fun y hy => by have := rs y hy; omega) (m_holdsL rfl (.inl rfl) (by omega) (fun z hzm => ⟨by have := (hzs z hzm).1; omega, zok z hzm⟩) (m_truth' hkB eqH (q_t (q_nt (q_F ⟨⟨_, _, rfl⟩, m_call hx3 (by omega) (fun y hy => by have := rs y hy; omega) ⟨⟨_, _, rfl⟩, q_tupRow hx3 (m_call (.inr rfl) (by omega) (fun y hy => by have := rs y hy; omega) (q_neBl (q_t ?_)))⟩⟩)))))⟩
    rw [decide_eq_true rfl]
    exact q_F (hn49 () trivial)
end Dw

namespace Dw
open PySem PySem.Spec PyProof.Rows L2
abbrev s__law_draw : Stmt := topW 39
abbrev s_names_in : Stmt := topW 2
abbrev s_mask_of : Stmt := topW 3
abbrev s_names_of : Stmt := topW 4
abbrev s_least_masks : Stmt := topW 6
abbrev s__law_mixed : Stmt := topW 40
abbrev s__law_words : Stmt := topW 43
abbrev s__law_deal : Stmt := topW 38
abbrev s__law_any_word : Stmt := topW 42
abbrev s_in_order : Stmt := topW 5
abbrev n_in_order : List Str := ["masks", "names", "sets", "mask"]
theorem sc_in_order : FnScope n_in_order ["masks", "names"] (defScope s_in_order) := ⟨rfl, rfl, rfl, by decide +kernel, rfl, by decide +kernel, by decide +kernel⟩
abbrev s_least_sets : Stmt := topW 8
abbrev n_least_sets : List Str := ["sets", "names", "one"]
theorem sc_least_sets : FnScope n_least_sets ["sets"] (defScope s_least_sets) := ⟨rfl, rfl, rfl, by decide +kernel, rfl, by decide +kernel, by decide +kernel⟩
abbrev s_holds : Stmt := topW 13
abbrev n_holds : List Str := ["least", "parts", "one", "name"]
theorem sc_holds : FnScope n_holds ["least", "parts"] (defScope s_holds) := ⟨rfl, rfl, rfl, by decide +kernel, rfl, by decide +kernel, by decide +kernel⟩
abbrev s_Rule___init__ : Stmt := inClass (topW 36) 0
abbrev n_Rule___init__ : List Str := ["self", "least"]
theorem sc_Rule___init__ : FnScope n_Rule___init__ ["self", "least"] (defScope s_Rule___init__) := ⟨rfl, rfl, rfl, by decide +kernel, rfl, by decide +kernel, by decide +kernel⟩
abbrev s_Rule_of_sets : Stmt := inClass (topW 36) 1
abbrev n_Rule_of_sets : List Str := ["cls", "sets"]
theorem sc_Rule_of_sets : FnScope n_Rule_of_sets ["cls", "sets"] (defScope s_Rule_of_sets) := ⟨rfl, rfl, rfl, by decide +kernel, rfl, by decide +kernel, by decide +kernel⟩
abbrev s_Rule___call__ : Stmt := inClass (topW 36) 3
abbrev n_Rule___call__ : List Str := ["self", "parts"]
theorem sc_Rule___call__ : FnScope n_Rule___call__ ["self", "parts"] (defScope s_Rule___call__) := ⟨rfl, rfl, rfl, by decide +kernel, rfl, by decide +kernel, by decide +kernel⟩
abbrev s_Rule___bool__ : Stmt := inClass (topW 36) 7
abbrev n_Rule___bool__ : List Str := ["self"]
theorem sc_Rule___bool__ : FnScope n_Rule___bool__ ["self"] (defScope s_Rule___bool__) := ⟨rfl, rfl, rfl, by decide +kernel, rfl, by decide +kernel, by decide +kernel⟩
abbrev s_show_set : Stmt := topW 33
abbrev n_show_set : List Str := ["names", "joined"]
theorem sc_show_set : FnScope n_show_set ["names"] (defScope s_show_set) := ⟨rfl, rfl, rfl, by decide +kernel, rfl, by decide +kernel, by decide +kernel⟩
abbrev s_show_rule : Stmt := topW 34
abbrev n_show_rule : List Str := ["rule", "texts", "joined", "names"]
theorem sc_show_rule : FnScope n_show_rule ["rule"] (defScope s_show_rule) := ⟨rfl, rfl, rfl, by decide +kernel, rfl, by decide +kernel, by decide +kernel⟩
abbrev s_Rule___repr__ : Stmt := inClass (topW 36) 8
abbrev n_Rule___repr__ : List Str := ["self"]
theorem sc_Rule___repr__ : FnScope n_Rule___repr__ ["self"] (defScope s_Rule___repr__) := ⟨rfl, rfl, rfl, by decide +kernel, rfl, by decide +kernel, by decide +kernel⟩
abbrev s__law_some : Stmt := topW 41
abbrev n__law_some : List Str := ["_law_deal_here", "_law_items", "_law_one_in", "_law_item"]
theorem sc__law_some : FnScope n__law_some ["_law_deal_here", "_law_items", "_law_one_in"] (defScope s__law_some) := ⟨rfl, rfl, rfl, by decide +kernel, rfl, by decide +kernel, by decide +kernel⟩
abbrev s__law_holds : Stmt := topW 44
abbrev n__law_holds : List Str := ["_law_sets", "_law_parts", "_law_names", "_law_name"]
theorem sc__law_holds : FnScope n__law_holds ["_law_sets", "_law_parts"] (defScope s__law_holds) := ⟨rfl, rfl, rfl, by decide +kernel, rfl, by decide +kernel, by decide +kernel⟩
abbrev s__law_within : Stmt := topW 45
abbrev n__law_within : List Str := ["_law_parts", "_law_wider", "_law_name"]
theorem sc__law_within : FnScope n__law_within ["_law_parts", "_law_wider"] (defScope s__law_within) := ⟨rfl, rfl, rfl, by decide +kernel, rfl, by decide +kernel, by decide +kernel⟩
abbrev s__law_least : Stmt := topW 46
abbrev n__law_least : List Str := ["_law_sets", "_law_plain", "_law_names", "_law_row", "_law_found", "_law_size", "_law_other"]
theorem sc__law_least : FnScope n__law_least ["_law_sets"] (defScope s__law_least) := ⟨rfl, rfl, rfl, by decide +kernel, rfl, by decide +kernel, by decide +kernel⟩
abbrev s__law_drawn_sets : Stmt := topW 47
abbrev n__law_drawn_sets : List Str := ["_law_deal_here", "_law_names", "_law_found", "_law_turn", "_law_size", "_law_row"]
theorem sc__law_drawn_sets : FnScope n__law_drawn_sets ["_law_deal_here", "_law_names"] (defScope s__law_drawn_sets) := ⟨rfl, rfl, rfl, by decide +kernel, rfl, by decide +kernel, by decide +kernel⟩
abbrev s__law_truth : Stmt := topW 48
abbrev n__law_truth : List Str := ["_law_found", "_law_due"]
theorem sc__law_truth : FnScope n__law_truth ["_law_found", "_law_due"] (defScope s__law_truth) := ⟨rfl, rfl, rfl, by decide +kernel, rfl, by decide +kernel, by decide +kernel⟩
abbrev s_law : Stmt := topW 49
abbrev n_law : List Str := ["_law_script", "_law_deal_here", "_law_turn", "_law_names", "_law_sets", "_law_handed", "_law_rule", "_law_due", "_law_row", "_law_named", "_law_again", "_law_some_here", "_law_asked", "_law_name"]
theorem sc_law : FnScope n_law ["_law_script"] (defScope s_law) := ⟨rfl, rfl, rfl, by decide +kernel, rfl, by decide +kernel, by decide +kernel⟩
structure Tx (P : Program) (w : World) (K : PySem.W.Frag) (mg : Str → Option Value) (base : Heap) where
  f_names_in : Addr
  fd_names_in : FuncData
  F_names_in : Fun K "names_in" "names_in" s_names_in f_names_in fd_names_in
  b_names_in : Binds K fd_names_in ["sets"] []
  g_names_in : mg "names_in" = some (.ref f_names_in)
  k_names_in : PySem.W.keepIn K (.ref f_names_in) = true
  f_mask_of : Addr
  fd_mask_of : FuncData
  F_mask_of : Fun K "mask_of" "mask_of" s_mask_of f_mask_of fd_mask_of
  b_mask_of : Binds K fd_mask_of ["one", "names"] []
  g_mask_of : mg "mask_of" = some (.ref f_mask_of)
  k_mask_of : PySem.W.keepIn K (.ref f_mask_of) = true
  f_names_of : Addr
  fd_names_of : FuncData
  F_names_of : Fun K "names_of" "names_of" s_names_of f_names_of fd_names_of
  b_names_of : Binds K fd_names_of ["mask", "names"] []
  g_names_of : mg "names_of" = some (.ref f_names_of)
  k_names_of : PySem.W.keepIn K (.ref f_names_of) = true
  f_in_order : Addr
  fd_in_order : FuncData
  F_in_order : Fun K "in_order" "in_order" s_in_order f_in_order fd_in_order
  b_in_order : Binds K fd_in_order ["masks", "names"] []
  g_in_order : mg "in_order" = some (.ref f_in_order)
  k_in_order : PySem.W.keepIn K (.ref f_in_order) = true
  f_least_masks : Addr
  fd_least_masks : FuncData
  F_least_masks : Fun K "least_masks" "least_masks" s_least_masks f_least_masks fd_least_masks
  b_least_masks : Binds K fd_least_masks ["masks"] []
  g_least_masks : mg "least_masks" = some (.ref f_least_masks)
  k_least_masks : PySem.W.keepIn K (.ref f_least_masks) = true
  f_least_sets : Addr
  fd_least_sets : FuncData
  F_least_sets : Fun K "least_sets" "least_sets" s_least_sets f_least_sets fd_least_sets
  b_least_sets : Binds K fd_least_sets ["sets"] []
  g_least_sets : mg "least_sets" = some (.ref f_least_sets)
  k_least_sets : PySem.W.keepIn K (.ref f_least_sets) = true
  f_holds : Addr
  fd_holds : FuncData
  F_holds : Fun K "holds" "holds" s_holds f_holds fd_holds
  b_holds : Binds K fd_holds ["least", "parts"] []
  g_holds : mg "holds" = some (.ref f_holds)
  k_holds : PySem.W.keepIn K (.ref f_holds) = true
  f_show_set : Addr
  fd_show_set : FuncData
  F_show_set : Fun K "show_set" "show_set" s_show_set f_show_set fd_show_set
  b_show_set : Binds K fd_show_set ["names"] []
  g_show_set : mg "show_set" = some (.ref f_show_set)
  k_show_set : PySem.W.keepIn K (.ref f_show_set) = true
  f_show_rule : Addr
  fd_show_rule : FuncData
  F_show_rule : Fun K "show_rule" "show_rule" s_show_rule f_show_rule fd_show_rule
  b_show_rule : Binds K fd_show_rule ["rule"] []
  g_show_rule : mg "show_rule" = some (.ref f_show_rule)
  k_show_rule : PySem.W.keepIn K (.ref f_show_rule) = true
  f__law_deal : Addr
  fd__law_deal : FuncData
  F__law_deal : Fun K "_law_deal" "_law_deal" s__law_deal f__law_deal fd__law_deal
  b__law_deal : Binds K fd__law_deal ["_law_script", "_law_base"] []
  g__law_deal : mg "_law_deal" = some (.ref f__law_deal)
  k__law_deal : PySem.W.keepIn K (.ref f__law_deal) = true
  f__law_draw : Addr
  fd__law_draw : FuncData
  F__law_draw : Fun K "_law_draw" "_law_draw" s__law_draw f__law_draw fd__law_draw
  b__law_draw : Binds K fd__law_draw ["_law_deal_here", "_law_many"] []
  g__law_draw : mg "_law_draw" = some (.ref f__law_draw)
  k__law_draw : PySem.W.keepIn K (.ref f__law_draw) = true
  f__law_mixed : Addr
  fd__law_mixed : FuncData
  F__law_mixed : Fun K "_law_mixed" "_law_mixed" s__law_mixed f__law_mixed fd__law_mixed
  b__law_mixed : Binds K fd__law_mixed ["_law_deal_here", "_law_items"] []
  g__law_mixed : mg "_law_mixed" = some (.ref f__law_mixed)
  k__law_mixed : PySem.W.keepIn K (.ref f__law_mixed) = true
  f__law_some : Addr
  fd__law_some : FuncData
  F__law_some : Fun K "_law_some" "_law_some" s__law_some f__law_some fd__law_some
  b__law_some : Binds K fd__law_some ["_law_deal_here", "_law_items", "_law_one_in"] []
  g__law_some : mg "_law_some" = some (.ref f__law_some)
  k__law_some : PySem.W.keepIn K (.ref f__law_some) = true
  f__law_words : Addr
  fd__law_words : FuncData
  F__law_words : Fun K "_law_words" "_law_words" s__law_words f__law_words fd__law_words
  b__law_words : Binds K fd__law_words ["_law_deal_here", "_law_many"] []
  g__law_words : mg "_law_words" = some (.ref f__law_words)
  k__law_words : PySem.W.keepIn K (.ref f__law_words) = true
  f__law_holds : Addr
  fd__law_holds : FuncData
  F__law_holds : Fun K "_law_holds" "_law_holds" s__law_holds f__law_holds fd__law_holds
  b__law_holds : Binds K fd__law_holds ["_law_sets", "_law_parts"] []
  g__law_holds : mg "_law_holds" = some (.ref f__law_holds)
  k__law_holds : PySem.W.keepIn K (.ref f__law_holds) = true
  f__law_within : Addr
  fd__law_within : FuncData
  F__law_within : Fun K "_law_within" "_law_within" s__law_within f__law_within fd__law_within
  b__law_within : Binds K fd__law_within ["_law_parts", "_law_wider"] []
  g__law_within : mg "_law_within" = some (.ref f__law_within)
  k__law_within : PySem.W.keepIn K (.ref f__law_within) = true
  f__law_least : Addr
  fd__law_least : FuncData
  F__law_least : Fun K "_law_least" "_law_least" s__law_least f__law_least fd__law_least
  b__law_least : Binds K fd__law_least ["_law_sets"] []
  g__law_least : mg "_law_least" = some (.ref f__law_least)
  k__law_least : PySem.W.keepIn K (.ref f__law_least) = true
  f__law_drawn_sets : Addr
  fd__law_drawn_sets : FuncData
  F__law_drawn_sets : Fun K "_law_drawn_sets" "_law_drawn_sets" s__law_drawn_sets f__law_drawn_sets fd__law_drawn_sets
  b__law_drawn_sets : Binds K fd__law_drawn_sets ["_law_deal_here", "_law_names"] []
  g__law_drawn_sets : mg "_law_drawn_sets" = some (.ref f__law_drawn_sets)
  k__law_drawn_sets : PySem.W.keepIn K (.ref f__law_drawn_sets) = true
  f__law_truth : Addr
  fd__law_truth : FuncData
  F__law_truth : Fun K "_law_truth" "_law_truth" s__law_truth f__law_truth fd__law_truth
  b__law_truth : Binds K fd__law_truth ["_law_found", "_law_due"] []
  g__law_truth : mg "_law_truth" = some (.ref f__law_truth)
  k__law_truth : PySem.W.keepIn K (.ref f__law_truth) = true
  f_law : Addr
  fd_law : FuncData
  F_law : Fun K "law" "law" s_law f_law fd_law
  b_law : Binds K fd_law ["_law_script"] []
  g_law : mg "law" = some (.ref f_law)
  k_law : PySem.W.keepIn K (.ref f_law) = true
  f_Rule___init__ : Addr
  fd_Rule___init__ : FuncData
  F_Rule___init__ : Fun K "__init__" "Rule.__init__" s_Rule___init__ f_Rule___init__ fd_Rule___init__
  b_Rule___init__ : Binds K fd_Rule___init__ ["self", "least"] []
  f_Rule_of_sets : Addr
  fd_Rule_of_sets : FuncData
  F_Rule_of_sets : Fun K "of_sets" "Rule.of_sets" s_Rule_of_sets f_Rule_of_sets fd_Rule_of_sets
  b_Rule_of_sets : Binds K fd_Rule_of_sets ["cls", "sets"] []
  f_Rule___call__ : Addr
  fd_Rule___call__ : FuncData
  F_Rule___call__ : Fun K "__call__" "Rule.__call__" s_Rule___call__ f_Rule___call__ fd_Rule___call__
  b_Rule___call__ : Binds K fd_Rule___call__ ["self", "parts"] []
  f_Rule___bool__ : Addr
  fd_Rule___bool__ : FuncData
  F_Rule___bool__ : Fun K "__bool__" "Rule.__bool__" s_Rule___bool__ f_Rule___bool__ fd_Rule___bool__
  b_Rule___bool__ : Binds K fd_Rule___bool__ ["self"] []
  f_Rule___repr__ : Addr
  fd_Rule___repr__ : FuncData
  F_Rule___repr__ : Fun K "__repr__" "Rule.__repr__" s_Rule___repr__ f_Rule___repr__ fd_Rule___repr__
  b_Rule___repr__ : Binds K fd_Rule___repr__ ["self"] []
  z_all : mg "all" = none
  z_any : mg "any" = none
  z_bool : mg "bool" = none
  z_int : mg "int" = none
  z_isinstance : mg "isinstance" = none
  z_len : mg "len" = none
  z_list : mg "list" = none
  z_range : mg "range" = none
  z_repr : mg "repr" = none
  z_set : mg "set" = none
  z_sorted : mg "sorted" = none
  z_tuple : mg "tuple" = none
  c : Cn
  kit : ∀ t u b, c.kit t u = some b → PySem.W.kitOne K t u = some b
  cl_Rule : Cls K c.Rule
  g_Rule : mg "Rule" = some (.ref c.Rule)
  mk_Rule : Mk K c.Rule f_Rule___init__
  mc_Rule : Value
  cr_Rule : ClX.CRead K c.Rule mc_Rule
  kt_list : PySem.W.kitOne K (.type "tuple") (.type "list") = some false
  pc_Rule_of_sets : Addr
  cm_Rule_of_sets : ClX.CMet K c.Rule mc_Rule "of_sets" pc_Rule_of_sets f_Rule_of_sets
  fl_Rule_least : ∀ C ∈ [c.Rule], Cls K C ∧ NoAttr K C "least"
  fl_Rule_names : ∀ C ∈ [c.Rule], Cls K C ∧ NoAttr K C "names"
  at_Rule___call__ : PySem.W.findIn K (.ref c.Rule) "__call__" = some (some (.ref f_Rule___call__))
  fn_Rule___call__ : PySem.W.isFn K (.ref f_Rule___call__) = true
  fi_Rule___call__ : PySem.W.fnIn K f_Rule___call__ = true
  k_isi_bool : ∀ C, c.kit (.ref C) (.type "bool") ≠ none → ClsT K C
  ok_names_in : FnOk P w K mg base CX0 1 f_names_in fd_names_in ["sets"] (SpP0 K (W.a1 p_names_in))
  ok_mask_of : FnOk P w K mg base CX0 1 f_mask_of fd_mask_of ["one", "names"] (SpP0 K (W.a2 p_mask_of))
  ok_names_of : FnOk P w K mg base CX0 1 f_names_of fd_names_of ["mask", "names"] (SpP0 K (W.a2 p_names_of))
  ok_least_masks : FnOk P w K mg base CX0 1 f_least_masks fd_least_masks ["masks"] (SpP0 K (W.a1 p_least_masks))
  ok__law_mixed : FnOk P w K mg base CX0 2 f__law_mixed fd__law_mixed ["_law_deal_here", "_law_items"] (SpDl K (W.a1 p__law_mixed))
  ok__law_words : FnOk P w K mg base CX0 3 f__law_words fd__law_words ["_law_deal_here", "_law_many"] (SpDl K (W.a1 p__law_words))
  ok__law_draw : FnOk P w K mg base CX0 1 f__law_draw fd__law_draw ["_law_deal_here", "_law_many"] (SpDl K (W.a1 W.draw))
  ok__law_deal : FnOk P w K mg base CX0 1 f__law_deal fd__law_deal ["_law_script", "_law_base"] (spDeal K)
section
variable {P : Program} {w : World} {K : PySem.W.Frag} {mg : Str → Option Value} {base : Heap}
theorem ok_names_in (T : Tx P w K mg base) : FnOk P w K mg base CX0 1 T.f_names_in T.fd_names_in ["sets"] (SpP0 K (W.a1 p_names_in)) := T.ok_names_in
theorem ok_mask_of (T : Tx P w K mg base) : FnOk P w K mg base CX0 1 T.f_mask_of T.fd_mask_of ["one", "names"] (SpP0 K (W.a2 p_mask_of)) := T.ok_mask_of
theorem ok_names_of (T : Tx P w K mg base) : FnOk P w K mg base CX0 1 T.f_names_of T.fd_names_of ["mask", "names"] (SpP0 K (W.a2 p_names_of)) := T.ok_names_of
theorem ok_least_masks (T : Tx P w K mg base) : FnOk P w K mg base CX0 1 T.f_least_masks T.fd_least_masks ["masks"] (SpP0 K (W.a1 p_least_masks)) := T.ok_least_masks
theorem ok__law_mixed (T : Tx P w K mg base) : FnOk P w K mg base CX0 2 T.f__law_mixed T.fd__law_mixed ["_law_deal_here", "_law_items"] (SpDl K (W.a1 p__law_mixed)) := T.ok__law_mixed
theorem ok__law_words (T : Tx P w K mg base) : FnOk P w K mg base CX0 3 T.f__law_words T.fd__law_words ["_law_deal_here", "_law_many"] (SpDl K (W.a1 p__law_words)) := T.ok__law_words
theorem ok__law_deal (T : Tx P w K mg base) : FnOk P w K mg base CX0 1 T.f__law_deal T.fd__law_deal ["_law_script", "_law_base"] (spDeal K) := T.ok__law_deal
theorem ok__law_draw (T : Tx P w K mg base) : FnOk P w K mg base CX0 1 T.f__law_draw T.fd__law_draw ["_law_deal_here", "_law_many"] (SpDl K (W.a1 W.draw)) := T.ok__law_draw
set_option maxHeartbeats 0 in
theorem ok_in_order (T : Tx P w K mg base) : FnOk P w K mg base CX0 2 T.f_in_order T.fd_in_order ["masks", "names"] (SpP0 K (W.a2 p_in_order)) := by
  refine fn_w (k := 1) (S := pure0) (W := fun _ => W.a2 p_in_order) T.F_in_order sc_in_order (fun g ds k h => by obtain ⟨_, _, rfl, _⟩ := a2_e h; rfl) fun cdv A outer s H E g ds kr F1 f0 tr hr h => ?_
  have hu := hr.units
  have hu65 := hr.units65
  obtain ⟨x0, x1, rfl, h0⟩ := a2_e h
  unfold p_in_order at h0
  exact ⟨_, (pss_cons (ps_set (i := 2) sc_in_order.nd rfl (Or.inl rfl) (pe_callB (show CallR _ _ (rSortedA K) from (cr_sortedA hu)) (by rfl) T.z_sorted (by decide +kernel) (pa_cons (pe_lc (own := [("mask", 3)]) (g := (gName 3)) (tt := tYes) (te := (tCall (SpP0 K (W.a2 p_names_of)) [] _ (tCons (tVar 3) (tCons (tVar 1) tNil)))) (by rfl) sc_in_order.nd (pi_seq (pv 0)) (blkOk_by (by kernel_rfl)) (fun _ _ _ _ _ => (pg_name (i := 3) sc_in_order.nd rfl (Or.inl rfl))) (fun _ _ _ _ _ => pts_nil) (fun _ _ _ _ _ => (pe_call (ok_names_of T) (hr.mono (by decide)) (by rfl) T.g_names_of T.k_names_of T.b_names_of .nil pass0 (pa_cons (pv 3) (pa_cons (pv 1) pa_nil))))) pa_nil))) (pss_one (ps_ret (pe_callTy (show CallR _ _ (fun xs H Q => ∃ p ys, xs = [.ref p] ∧ ((SqL K H p ys ∧ ∀ l, H l = none → Q (.ref l) (upd H l (.tup ys))) ∨ (SqT K H p ys ∧ Q (.ref p) H))) from call_tuple_of) (by rfl) T.z_tuple (by decide +kernel) (pa_cons (pe_sortedLen hu (by rfl) T.z_sorted (by rfl) T.z_len (pv 2)) pa_nil))))), (s_asg (De.imp (e_cb l_sortedA (dav_cons (De.v (De.imp (e_comp _ (js := [3]) (by decide) (i_seq (de_var rfl h0)) (fun _ v1 _ h11 => (dg_name (dt_yes (iteT (e_callP2 (w := p_names_of) (de_var rfl (de_var rfl h11)))))))) fun v5 h10 => (dav_nil h10))))) fun v4 h9 => (s_ret (e_cb l_tupleOf (dav_cons (De.v (De.imp (e_sortedLen (De.v (de_var rfl h9))) fun v8 h12 => (dav_nil h12))))))))⟩
set_option maxHeartbeats 0 in
theorem ok_least_sets (T : Tx P w K mg base) : FnOk P w K mg base CX0 3 T.f_least_sets T.fd_least_sets ["sets"] (SpP0 K (W.a1 p_least_sets)) := by
  refine fn_w (k := 2) (S := pure0) (W := fun _ => W.a1 p_least_sets) T.F_least_sets sc_least_sets (fun g ds k h => by obtain ⟨_, rfl, _⟩ := a1_e h; rfl) fun cdv A outer s H E g ds kr F1 f0 tr hr h => ?_
  have hu := hr.units
  have hu65 := hr.units65
  obtain ⟨x0, rfl, h0⟩ := a1_e h
  unfold p_least_sets at h0
  exact ⟨_, (pss_cons (ps_set (i := 1) sc_least_sets.nd rfl (Or.inr rfl) (pe_call (ok_names_in T) (hr.mono (by decide)) (by rfl) T.g_names_in T.k_names_in T.b_names_in .nil pass0 (pa_cons (pv 0) pa_nil))) (pss_one (ps_ret (pe_call (ok_in_order T) (hr.mono (by decide)) (by rfl) T.g_in_order T.k_in_order T.b_in_order .nil pass0 (pa_cons (pe_call (ok_least_masks T) (hr.mono (by decide)) (by rfl) T.g_least_masks T.k_least_masks T.b_least_masks .nil pass0 (pa_cons (pe_lc (own := [("one", 2)]) (g := (gName 2)) (tt := tYes) (te := (tCall (SpP0 K (W.a2 p_mask_of)) [] _ (tCons (tVar 2) (tCons (tVar 1) tNil)))) (by rfl) sc_least_sets.nd (pi_seq (pv 0)) (blkOk_by (by kernel_rfl)) (fun _ _ _ _ _ => (pg_name (i := 2) sc_least_sets.nd rfl (Or.inl rfl))) (fun _ _ _ _ _ => pts_nil) (fun _ _ _ _ _ => (pe_call (ok_mask_of T) (hr.mono (by decide)) (by rfl) T.g_mask_of T.k_mask_of T.b_mask_of .nil pass0 (pa_cons (pv 2) (pa_cons (pv 1) pa_nil))))) pa_nil)) (pa_cons (pv 1) pa_nil)))))), (s_asg (De.imp (e_callP1 (w := p_names_in) (de_var rfl h0)) fun v1 h9 => (s_ret (e_callP2 (w := p_in_order) (De.imp (e_callP1 (w := p_least_masks) (e_comp _ (js := [2]) (by decide) (i_seq (de_var rfl h9)) (fun _ v2 _ h11 => (dg_name (dt_yes (iteT (e_callP2 (w := p_mask_of) (de_var rfl (de_var rfl h11))))))))) fun v6 h10 => (de_var rfl h10))))))⟩
set_option maxHeartbeats 0 in
theorem ok_holds (T : Tx P w K mg base) : FnOk P w K mg base CX0 1 T.f_holds T.fd_holds ["least", "parts"] (SpP0 K (W.a2 p_holds)) := by
  refine fn_w (k := 0) (S := pure0) (W := fun _ => W.a2 p_holds) T.F_holds sc_holds (fun g ds k h => by obtain ⟨_, _, rfl, _⟩ := a2_e h; rfl) fun cdv A outer s H E g ds kr F1 f0 tr hr h => ?_
  have hu := hr.units
  have hu65 := hr.units65
  obtain ⟨x0, x1, rfl, h0⟩ := a2_e h
  unfold p_holds at h0
  exact ⟨_, (pss_one (ps_ret (pe_callB (show CallR _ _ (rAny K) from (cr_any (by rfl))) (by rfl) T.z_any (by decide +kernel) (pa_cons (pe_lc (own := [("one", 2)]) (g := (gName 2)) (tt := tYes) (te := (tCB (rAll K) (tCons (tLc (iSeq K (tVar 2)) (gName 3) tYes (tOp (rInW K) (tVar 3) (tVar 1)) ([("name", 3)].map (·.2))) tNil))) (by rfl) sc_holds.nd (pi_seq (pv 0)) (blkOk_by (by kernel_rfl)) (fun _ _ _ _ _ => (pg_name (i := 2) sc_holds.nd rfl (Or.inl rfl))) (fun _ _ _ _ _ => pts_nil) (fun _ _ _ _ _ => (pe_callB (show CallR _ _ (rAll K) from (cr_all (by rfl))) (by rfl) T.z_all (by decide +kernel) (pa_cons (pe_lc (own := [("name", 3)]) (g := (gName 3)) (tt := tYes) (te := (tOp (rInW K) (tVar 3) (tVar 1))) (by rfl) sc_holds.nd (pi_seq (pv 2)) (blkOk_by (by kernel_rfl)) (fun _ _ _ _ _ => (pg_name (i := 3) sc_holds.nd rfl (Or.inl rfl))) (fun _ _ _ _ _ => pts_nil) (fun _ _ _ _ _ => (pe_cmpR (op_inW hu65) (pv 3) (pv 1) (by rfl)))) pa_nil)))) pa_nil)))), (s_ret (e_cb l_any (dav_cons (De.v (De.imp (e_comp _ (js := [2]) (by decide) (i_seq (de_var rfl h0)) (fun _ v1 _ h13 => (dg_name (dt_yes (iteT (e_cb l_all (dav_cons (De.v (De.imp (e_comp _ (js := [3]) (by decide) (i_seq (de_var rfl h13)) (fun _ v2 _ h15 => (dg_name (dt_yes (iteT (e_op2 l_in (De.v (de_var rfl (De.v (de_var rfl h15)))))))))) fun v7 h14 => (dav_nil h14)))))))))) fun v10 h12 => (dav_nil h12))))))⟩
set_option maxHeartbeats 0 in
theorem ok_Rule___init__ (T : Tx P w K mg base) : FnOk P w K mg base CX0 2 T.f_Rule___init__ T.fd_Rule___init__ ["self", "least"] (SpI K T.c.Rule (W.a1 (p_Rule___init__ T.c))) := by
  refine fn_init (k := 1) (W := W.a1 (p_Rule___init__ T.c)) T.F_Rule___init__ sc_Rule___init__ (fun ds k h => by obtain ⟨_, rfl, _⟩ := a1_e h; rfl) fun cdv A outer s H E self ds kr hr h => ?_
  have hu := hr.units
  have hu65 := hr.units65
  obtain ⟨x1, rfl, h0⟩ := a1_e h
  unfold p_Rule___init__ at h0
  exact ⟨_, (pss_cons (ps_fld (pv 0) (pv 1) rfl) (pss_one (ps_fld (pv 0) (pe_callTy (show CallR _ _ (fun xs H Q => ∃ p ys, xs = [.ref p] ∧ ((SqL K H p ys ∧ ∀ l, H l = none → Q (.ref l) (upd H l (.tup ys))) ∨ (SqT K H p ys ∧ Q (.ref p) H))) from call_tuple_of) (by rfl) T.z_tuple (by decide +kernel) (pa_cons (pe_call (ok_names_in T) (hr.mono (by decide)) (by rfl) T.g_names_in T.k_names_in T.b_names_in .nil pass0 (pa_cons (pv 1) pa_nil)) pa_nil)) rfl))), (ini_fld T.cl_Rule (T.fl_Rule_least _ (List.mem_singleton.mpr rfl)).2 (by decide) (by decide) (fun H F f0 tr => (de_var rfl (ini_last (ini_fld T.cl_Rule (T.fl_Rule_names _ (List.mem_singleton.mpr rfl)).2 (by decide) (by decide) (fun H F f0 tr => (De.imp (e_cb l_tupleOf (dav_cons (De.v (De.imp (e_callP1 (w := p_names_in) (de_var rfl h0)) fun v2 h4 => (dav_nil h4))))) fun v1 h3 => (ini_end h3))))))))⟩
set_option maxHeartbeats 0 in
theorem ok_Rule_of_sets (T : Tx P w K mg base) : FnOk P w K mg base CX0 4 T.f_Rule_of_sets T.fd_Rule_of_sets ["cls", "sets"] (SpP0 K (W.a2 (p_Rule_of_sets T.c))) := by
  refine fn_w (k := 3) (S := pure0) (W := fun _ => W.a2 (p_Rule_of_sets T.c)) T.F_Rule_of_sets sc_Rule_of_sets (fun g ds k h => by obtain ⟨_, _, rfl, _⟩ := a2_e h; rfl) fun cdv A outer s H E g ds kr F1 f0 tr hr h => ?_
  have hu := hr.units
  have hu65 := hr.units65
  obtain ⟨x0, x1, rfl, h0⟩ := a2_e h
  unfold p_Rule_of_sets at h0
  exact ⟨_, (pss_one (ps_ret (pe_make T.mk_Rule (ok_Rule___init__ T) (hr.mono (by decide)) (by rfl) T.g_Rule T.b_Rule___init__ .nil pass0 (pa_cons (pe_call (ok_least_sets T) (hr.mono (by decide)) (by rfl) T.g_least_sets T.k_least_sets T.b_least_sets .nil pass0 (pa_cons (pv 1) pa_nil)) pa_nil)))), (s_ret (e_make (C := T.c.Rule) (w := (W.a1 (p_Rule___init__ T.c))) (da_cons (De.imp (e_callP1 (w := p_least_sets) (de_var rfl h0)) fun v2 h3 => (da_nil h3)))))⟩
set_option maxHeartbeats 0 in
theorem ok_Rule___call__ (T : Tx P w K mg base) : FnOk P w K mg base CX0 2 T.f_Rule___call__ T.fd_Rule___call__ ["self", "parts"] (SpP0 K (W.a2 (p_Rule___call__ T.c))) := by
  refine fn_w (k := 1) (S := pure0) (W := fun _ => W.a2 (p_Rule___call__ T.c)) T.F_Rule___call__ sc_Rule___call__ (fun g ds k h => by obtain ⟨_, _, rfl, _⟩ := a2_e h; rfl) fun cdv A outer s H E g ds kr F1 f0 tr hr h => ?_
  have hu := hr.units
  have hu65 := hr.units65
  obtain ⟨x0, x1, rfl, h0⟩ := a2_e h
  unfold p_Rule___call__ at h0
  exact ⟨_, (pss_one (ps_ret (pe_call (ok_holds T) (hr.mono (by decide)) (by rfl) T.g_holds T.k_holds T.b_holds .nil pass0 (pa_cons (pe_fld (pv 0) rfl) (pa_cons (pv 1) pa_nil))))), (s_ret (e_callP2 (w := p_holds) (De.imp (e_fld (cs := [T.c.Rule]) T.fl_Rule_least (De.v (de_var rfl h0))) fun v2 h3 => (de_var rfl h3))))⟩
set_option maxHeartbeats 0 in
theorem ok_Rule___bool__ (T : Tx P w K mg base) : FnOk P w K mg base CX0 1 T.f_Rule___bool__ T.fd_Rule___bool__ ["self"] (SpP0 K (W.a1 (p_Rule___bool__ T.c))) := by
  refine fn_w (k := 0) (S := pure0) (W := fun _ => W.a1 (p_Rule___bool__ T.c)) T.F_Rule___bool__ sc_Rule___bool__ (fun g ds k h => by obtain ⟨_, rfl, _⟩ := a1_e h; rfl) fun cdv A outer s H E g ds kr F1 f0 tr hr h => ?_
  have hu := hr.units
  have hu65 := hr.units65
  obtain ⟨x0, rfl, h0⟩ := a1_e h
  unfold p_Rule___bool__ at h0
  exact ⟨_, (pss_one (ps_ret (pe_callTy (show CallR _ _ (rBoolT K) from cr_boolT) (by rfl) T.z_bool (by decide +kernel) (pa_cons (pe_fld (pv 0) rfl) pa_nil)))), (s_ret (e_cb l_boolT (dav_cons (De.v (De.imp (e_fld (cs := [T.c.Rule]) T.fl_Rule_least (De.v (de_var rfl h0))) fun v2 h3 => (dav_nil h3))))))⟩
set_option maxHeartbeats 0 in
theorem ok_show_set (T : Tx P w K mg base) : FnOk P w K mg base CX0 1 T.f_show_set T.fd_show_set ["names"] (SpP0 K (W.a1 p_show_set)) := by
  refine fn_w (k := 0) (S := pure0) (W := fun _ => W.a1 p_show_set) T.F_show_set sc_show_set (fun g ds k h => by obtain ⟨_, rfl, _⟩ := a1_e h; rfl) fun cdv A outer s H E g ds kr F1 f0 tr hr h => ?_
  have hu := hr.units
  have hu65 := hr.units65
  obtain ⟨x0, rfl, h0⟩ := a1_e h
  unfold p_show_set at h0
  exact ⟨_, (pss_cons (ps_if (pt_cmpR (op_eqW hu) (pe_callB (show CallR _ _ (rLenW K) from call_lenW) (by rfl) T.z_len PySem.boot_len (pa_cons (pv 0) pa_nil)) pe_int (nomark _)) (pss_one (ps_ret pe_str)) pss_nil) (pss_cons (ps_if (pt_cmpR (op_eqW hu) (pe_callB (show CallR _ _ (rLenW K) from call_lenW) (by rfl) T.z_len PySem.boot_len (pa_cons (pv 0) pa_nil)) pe_int (nomark _)) (pss_one (ps_ret (pe_ix (show IxR _ (rIx K) from ix_seq) (pv 0) pe_int (fun _ _ => rfl)))) pss_nil) (pss_cons (ps_set (i := 1) sc_show_set.nd rfl (Or.inl rfl) (pe_join pe_str (pv 0))) (pss_one (ps_ret (pe_joined (PJ.cons pe_str (PJ.cons (pe_fmt (pv 1)) (PJ.cons pe_str PJ.nil))))))))), (s_ifR (DT.imp (t_test (e_op2 l_eq (De.v (De.imp (e_cb l_len (dav_cons (De.v (de_var rfl (dav_nil h0))))) fun v11 h15 => (De.v (de_int h15)))))) fun b9 h14 => (ite_split h14 (fun h12 => (s_ret (de_str h12))) (fun h13 => (ds_next (s_ifR (DT.imp (t_test (e_op2 l_eq (De.v (De.imp (e_cb l_len (dav_cons (De.v (de_var rfl (dav_nil h13))))) fun v8 h19 => (De.v (de_int h19)))))) fun b6 h18 => (ite_split h18 (fun h16 => (s_ret (e_op2 l_ix (De.v (de_var rfl (De.v (de_int h16))))))) (fun h17 => (ds_next (s_asg (De.imp (e_m1 l_join (De.v (de_str ⟨And.left h17, (De.v (de_var rfl (And.right h17)))⟩))) fun v2 h20 => (s_ret (e_joined (dj_lit (de_str (W.cat.imp h20 fun a3 h21 => (dj_fmt (de_var rfl (W.cat.imp h21 fun a4 h22 => (dj_lit (de_str (W.cat.imp h22 fun a5 h23 => (dj_nil h23))))))))))))))))))))))))⟩
set_option maxHeartbeats 0 in
theorem ok_show_rule (T : Tx P w K mg base) : FnOk P w K mg base CX0 2 T.f_show_rule T.fd_show_rule ["rule"] (SpP0 K (W.a1 (p_show_rule T.c))) := by
  refine fn_w (k := 1) (S := pure0) (W := fun _ => W.a1 (p_show_rule T.c)) T.F_show_rule sc_show_rule (fun g ds k h => by obtain ⟨_, rfl, _⟩ := a1_e h; rfl) fun cdv A outer s H E g ds kr F1 f0 tr hr h => ?_
  have hu := hr.units
  have hu65 := hr.units65
  obtain ⟨x0, rfl, h0⟩ := a1_e h
  unfold p_show_rule at h0
  exact ⟨_, (pss_cons (ps_setLc (i := 1) (own := [("names", 3)]) (g := (gName 3)) (tt := tYes) (te := (tCall (SpP0 K (W.a1 p_show_set)) [] _ (tCons (tVar 3) tNil))) rfl sc_show_rule.nd rfl rfl (sw_true rfl rfl rfl (by decide +kernel)) (pi_seq (pe_fld (pv 0) rfl)) (blkOk_by (by kernel_rfl)) (fun _ _ _ _ _ => (pg_name (i := 3) sc_show_rule.nd rfl (Or.inl rfl))) (fun _ _ _ _ _ => pts_nil) (fun _ _ _ _ _ => (pe_call (ok_show_set T) (hr.mono (by decide)) (by rfl) T.g_show_set T.k_show_set T.b_show_set .nil pass0 (pa_cons (pv 3) pa_nil)))) (pss_cons (ps_if (pt_cmpR (op_eqW hu) (pe_callB (show CallR _ _ (rLenW K) from call_lenW) (by rfl) T.z_len PySem.boot_len (pa_cons (pv 1) pa_nil)) pe_int (nomark _)) (pss_one (ps_ret pe_str)) pss_nil) (pss_cons (ps_if (pt_cmpR (op_eqW hu) (pe_callB (show CallR _ _ (rLenW K) from call_lenW) (by rfl) T.z_len PySem.boot_len (pa_cons (pv 1) pa_nil)) pe_int (nomark _)) (pss_one (ps_ret (pe_ix (show IxR _ (rIx K) from ix_seq) (pv 1) pe_int (fun _ _ => rfl)))) pss_nil) (pss_cons (ps_set (i := 2) sc_show_rule.nd rfl (Or.inl rfl) (pe_join pe_str (pv 1))) (pss_one (ps_ret (pe_joined (PJ.cons pe_str (PJ.cons (pe_fmt (pv 2)) (PJ.cons pe_str PJ.nil)))))))))), (s_asg (De.imp (e_comp _ (js := [3]) (by decide) (i_seq (e_fld (cs := [T.c.Rule]) T.fl_Rule_least (De.v (de_var rfl h0)))) (fun _ v1 _ h19 => (dg_name (dt_yes (iteT (e_callP1 (w := p_show_set) (de_var rfl h19))))))) fun v4 h18 => (s_ifR (DT.imp (t_test (e_op2 l_eq (De.v (De.imp (e_cb l_len (dav_cons (De.v (de_var rfl (dav_nil h18))))) fun v17 h23 => (De.v (de_int h23)))))) fun b15 h22 => (ite_split h22 (fun h20 => (s_ret (de_str h20))) (fun h21 => (ds_next (s_ifR (DT.imp (t_test (e_op2 l_eq (De.v (De.imp (e_cb l_len (dav_cons (De.v (de_var rfl (dav_nil h21))))) fun v14 h27 => (De.v (de_int h27)))))) fun b12 h26 => (ite_split h26 (fun h24 => (s_ret (e_op2 l_ix (De.v (de_var rfl (De.v (de_int h24))))))) (fun h25 => (ds_next (s_asg (De.imp (e_m1 l_join (De.v (de_str ⟨And.left h25, (De.v (de_var rfl (And.right h25)))⟩))) fun v8 h28 => (s_ret (e_joined (dj_lit (de_str (W.cat.imp h28 fun a9 h29 => (dj_fmt (de_var rfl (W.cat.imp h29 fun a10 h30 => (dj_lit (de_str (W.cat.imp h30 fun a11 h31 => (dj_nil h31))))))))))))))))))))))))))⟩
set_option maxHeartbeats 0 in
theorem ok_Rule___repr__ (T : Tx P w K mg base) : FnOk P w K mg base CX0 3 T.f_Rule___repr__ T.fd_Rule___repr__ ["self"] (SpP0 K (W.a1 (p_Rule___repr__ T.c))) := by
  refine fn_w (k := 2) (S := pure0) (W := fun _ => W.a1 (p_Rule___repr__ T.c)) T.F_Rule___repr__ sc_Rule___repr__ (fun g ds k h => by obtain ⟨_, rfl, _⟩ := a1_e h; rfl) fun cdv A outer s H E g ds kr F1 f0 tr hr h => ?_
  have hu := hr.units
  have hu65 := hr.units65
  obtain ⟨x0, rfl, h0⟩ := a1_e h
  unfold p_Rule___repr__ at h0
  exact ⟨_, (pss_one (ps_ret (pe_joined (PJ.cons pe_str (PJ.cons (pe_fmt (pe_call (ok_show_rule T) (hr.mono (by decide)) (by rfl) T.g_show_rule T.k_show_rule T.b_show_rule .nil pass0 (pa_cons (pv 0) pa_nil))) (PJ.cons pe_str PJ.nil)))))), (s_ret (e_joined (dj_lit (de_str (W.cat.imp h0 fun a1 h5 => (dj_fmt (De.imp (e_callP1 (w := (p_show_rule T.c)) (de_var rfl h5)) fun v3 h7 => (W.cat.imp h7 fun a2 h6 => (dj_lit (de_str (W.cat.imp h6 fun a4 h8 => (dj_nil h8))))))))))))⟩
set_option maxHeartbeats 0 in
theorem ok__law_some (T : Tx P w K mg base) : FnOk P w K mg base CX0 2 T.f__law_some T.fd__law_some ["_law_deal_here", "_law_items", "_law_one_in"] (SpDl K (W.a2 p__law_some)) := by
  refine fn_w (k := 1) (S := dealS) (W := dealW (W.a2 p__law_some)) T.F__law_some sc__law_some (fun g ds k h => by obtain ⟨r, rfl, h⟩ := h; obtain ⟨_, _, rfl, _⟩ := a2_e h; rfl) fun cdv A outer s H E g ds kr F1 f0 tr hr h => ?_
  have hu := hr.units
  have hu65 := hr.units65
  obtain ⟨r, rfl, h⟩ := h
  obtain ⟨x1, x2, rfl, h0⟩ := a2_e h
  unfold p__law_some at h0
  exact ⟨_, (pss_one (ps_ret (pe_lc (own := [("_law_item", 3)]) (g := (gName 3)) (tt := (tTest (tOp (rEqW K) (tCall (SpDl K (W.a1 W.draw)) [] _ (tCons (tVar 0) (tCons (tVar 2) tNil))) (tC (.int 0))))) (te := (tVar 3)) (by rfl) sc__law_some.nd (pi_seq (pv 1)) (blkOk_by (by kernel_rfl)) (fun _ _ _ _ _ => (pg_name (i := 3) sc__law_some.nd rfl (Or.inl rfl))) (fun _ _ _ _ _ => (pts_one (pt_cmpR (op_eqW hu) (pe_call (ok__law_draw T) (hr.mono (by decide)) (by rfl) T.g__law_draw T.k__law_draw T.b__law_draw .nil pass0 (pa_cons (pv 0) (pa_cons (pv 2) pa_nil))) pe_int (nomark _)))) (fun _ _ _ _ _ => (pv 3))))), (s_ret (e_comp _ (js := [3]) (by decide) (i_seq (de_var rfl h0)) (fun _ v1 _ h8 => (dg_name (DT.imp (t_test (e_op2 l_eq (De.v (De.imp (e_callD1 (w := W.draw) g rfl rfl (i := 0) rfl (de_var rfl h8)) fun v5 h11 => (De.v (de_int h11)))))) fun b3 h10 => (ite_split h10 (fun h9 => (de_var rfl h9)) id))))))⟩
set_option maxHeartbeats 0 in
theorem ok__law_holds (T : Tx P w K mg base) : FnOk P w K mg base CX0 1 T.f__law_holds T.fd__law_holds ["_law_sets", "_law_parts"] (SpP0 K (W.a2 p__law_holds)) := by
  refine fn_w (k := 0) (S := pure0) (W := fun _ => W.a2 p__law_holds) T.F__law_holds sc__law_holds (fun g ds k h => by obtain ⟨_, _, rfl, _⟩ := a2_e h; rfl) fun cdv A outer s H E g ds kr F1 f0 tr hr h => ?_
  have hu := hr.units
  have hu65 := hr.units65
  obtain ⟨x0, x1, rfl, h0⟩ := a2_e h
  unfold p__law_holds at h0
  exact ⟨_, (pss_one (ps_ret (pe_cmpR (op_inW hu65) pe_bl (pe_lc (own := [("_law_names", 2)]) (g := (gName 2)) (tt := tYes) (te := (tOp (rEqW K) (tLc (iSeq K (tVar 2)) (gName 3) (tTest (tOp (rNinW K) (tVar 3) (tVar 1))) (tVar 3) ([("_law_name", 3)].map (·.2))) (tLst tNil))) (by rfl) sc__law_holds.nd (pi_seq (pv 0)) (blkOk_by (by kernel_rfl)) (fun _ _ _ _ _ => (pg_name (i := 2) sc__law_holds.nd rfl (Or.inl rfl))) (fun _ _ _ _ _ => pts_nil) (fun _ _ _ _ _ => (pe_cmpR (op_eqW hu) (pe_lc (own := [("_law_name", 3)]) (g := (gName 3)) (tt := (tTest (tOp (rNinW K) (tVar 3) (tVar 1)))) (te := (tVar 3)) (by rfl) sc__law_holds.nd (pi_seq (pv 2)) (blkOk_by (by kernel_rfl)) (fun _ _ _ _ _ => (pg_name (i := 3) sc__law_holds.nd rfl (Or.inl rfl))) (fun _ _ _ _ _ => (pts_one (pt_cmpR (op_ninW hu65) (pv 3) (pv 1) (by rfl)))) (fun _ _ _ _ _ => (pv 3))) (pe_lst pa_nil) (nomark _)))) (by rfl)))), (s_ret (e_op2 l_in (De.v (de_bl (De.v (e_comp _ (js := [2]) (by decide) (i_seq (de_var rfl h0)) (fun _ v1 _ h13 => (dg_name (dt_yes (iteT (e_op2 l_eq (De.v (De.imp (e_comp _ (js := [3]) (by decide) (i_seq (de_var rfl h13)) (fun _ v2 _ h15 => (dg_name (DT.imp (t_test (e_op2 l_nin (De.v (de_var rfl (De.v (de_var rfl h15)))))) fun b4 h17 => (ite_split h17 (fun h16 => (de_var rfl h16)) id))))) fun v8 h14 => (De.v (e_lst (da_nil ⟨lenLe 0 (by decide), h14⟩))))))))))))))))⟩
set_option maxHeartbeats 0 in
theorem ok__law_within (T : Tx P w K mg base) : FnOk P w K mg base CX0 1 T.f__law_within T.fd__law_within ["_law_parts", "_law_wider"] (SpP0 K (W.a2 p__law_within)) := by
  refine fn_w (k := 0) (S := pure0) (W := fun _ => W.a2 p__law_within) T.F__law_within sc__law_within (fun g ds k h => by obtain ⟨_, _, rfl, _⟩ := a2_e h; rfl) fun cdv A outer s H E g ds kr F1 f0 tr hr h => ?_
  have hu := hr.units
  have hu65 := hr.units65
  obtain ⟨x0, x1, rfl, h0⟩ := a2_e h
  unfold p__law_within at h0
  exact ⟨_, (pss_one (ps_ret (pe_cmpR (op_eqW hu) (pe_lc (own := [("_law_name", 2)]) (g := (gName 2)) (tt := (tTest (tOp (rNinW K) (tVar 2) (tVar 1)))) (te := (tVar 2)) (by rfl) sc__law_within.nd (pi_seq (pv 0)) (blkOk_by (by kernel_rfl)) (fun _ _ _ _ _ => (pg_name (i := 2) sc__law_within.nd rfl (Or.inl rfl))) (fun _ _ _ _ _ => (pts_one (pt_cmpR (op_ninW hu65) (pv 2) (pv 1) (by rfl)))) (fun _ _ _ _ _ => (pv 2))) (pe_lst pa_nil) (nomark _)))), (s_ret (e_op2 l_eq (De.v (De.imp (e_comp _ (js := [2]) (by decide) (i_seq (de_var rfl h0)) (fun _ v1 _ h9 => (dg_name (DT.imp (t_test (e_op2 l_nin (De.v (de_var rfl (De.v (de_var rfl h9)))))) fun b3 h11 => (ite_split h11 (fun h10 => (de_var rfl h10)) id))))) fun v6 h8 => (De.v (e_lst (da_nil ⟨lenLe 0 (by decide), h8⟩)))))))⟩
set_option maxHeartbeats 0 in
theorem ok__law_least (T : Tx P w K mg base) : FnOk P w K mg base CX0 2 T.f__law_least T.fd__law_least ["_law_sets"] (SpP0 K (W.a1 p__law_least)) := by
  refine fn_w (k := 1) (S := pure0) (W := fun _ => W.a1 p__law_least) T.F__law_least sc__law_least (fun g ds k h => by obtain ⟨_, rfl, _⟩ := a1_e h; rfl) fun cdv A outer s H E g ds kr F1 f0 tr hr h => ?_
  have hu := hr.units
  have hu65 := hr.units65
  obtain ⟨x0, rfl, h0⟩ := a1_e h
  unfold p__law_least at h0
  exact ⟨_, (pss_cons (ps_set (i := 1) sc__law_least.nd rfl (Or.inl rfl) (pe_lst pa_nil)) (pss_cons (ps_for PassesOwn.never rfl (pi_seq (pv 0)) (pg_name (i := 2) sc__law_least.nd rfl (Or.inr rfl)) (pss_cons (ps_set (i := 3) sc__law_least.nd rfl (Or.inl rfl) (pe_tup (pa_cons (pe_callB (show CallR _ _ (rLenSetX P w) from cr_lenSetX) (by rfl) T.z_len PySem.boot_len (pa_cons (pe_callTy (show CallR _ _ (rSetS K P w) from (cr_setS (by rfl))) (by rfl) T.z_set (by decide +kernel) (pa_cons (pv 2) pa_nil)) pa_nil)) (pa_cons (pe_callB (show CallR _ _ (rSortedX P w) from (cr_sortedX (by rfl))) (by rfl) T.z_sorted (by decide +kernel) (pa_cons (pe_callTy (show CallR _ _ (rSetS K P w) from (cr_setS (by rfl))) (by rfl) T.z_set (by decide +kernel) (pa_cons (pv 2) pa_nil)) pa_nil)) pa_nil)))) (pss_one (ps_if (pt_cmpR (op_ninW hu65) (pv 3) (pv 1) (by rfl)) (pss_one (ps_expr (pe_bm PySem.F.plainAttrs_list PySem.F.slot_list_append PySem.F.type_list_append mt_append (pv 1) (pa_cons (pv 3) pa_nil)))) pss_nil)))) (pss_cons (ps_set (i := 4) sc__law_least.nd rfl (Or.inl rfl) (pe_lst pa_nil)) (pss_cons (ps_for PassesOwn.never rfl (pi_seq (pe_callB (show CallR _ _ (rSortedA K) from (cr_sortedA hu)) (by rfl) T.z_sorted (by decide +kernel) (pa_cons (pv 1) pa_nil))) (pg_tup (by rfl) (pgs_cons (pg_name (i := 5) sc__law_least.nd rfl (Or.inl rfl)) (pgs_cons (pg_name (i := 2) sc__law_least.nd rfl (Or.inr rfl)) pgs_nil))) (pss_one (ps_if (pt_cmpR (op_eqW hu) (pe_lc (own := [("_law_other", 6)]) (g := (gName 6)) (tt := (tB (tCall (SpP0 K (W.a2 p__law_within)) [] _ (tCons (tVar 6) (tCons (tVar 2) tNil))))) (te := (tVar 6)) (by rfl) sc__law_least.nd (pi_seq (pv 4)) (blkOk_by (by kernel_rfl)) (fun _ _ _ _ _ => (pg_name (i := 6) sc__law_least.nd rfl (Or.inl rfl))) (fun _ _ _ _ _ => (pts_one (pt_val (pe_call (ok__law_within T) (hr.mono (by decide)) (by rfl) T.g__law_within T.k__law_within T.b__law_within .nil pass0 (pa_cons (pv 6) (pa_cons (pv 2) pa_nil)))))) (fun _ _ _ _ _ => (pv 6))) (pe_lst pa_nil) (nomark _)) (pss_one (ps_expr (pe_bm PySem.F.plainAttrs_list PySem.F.slot_list_append PySem.F.type_list_append mt_append (pv 4) (pa_cons (pe_callTy (show CallR _ _ (fun xs H Q => ∃ p ys, xs = [.ref p] ∧ ((SqL K H p ys ∧ ∀ l, H l = none → Q (.ref l) (upd H l (.tup ys))) ∨ (SqT K H p ys ∧ Q (.ref p) H))) from call_tuple_of) (by rfl) T.z_tuple (by decide +kernel) (pa_cons (pv 2) pa_nil)) pa_nil)))) pss_nil))) (pss_one (ps_ret (pe_callTy (show CallR _ _ (fun xs H Q => ∃ p ys, xs = [.ref p] ∧ ((SqL K H p ys ∧ ∀ l, H l = none → Q (.ref l) (upd H l (.tup ys))) ∨ (SqT K H p ys ∧ Q (.ref p) H))) from call_tuple_of) (by rfl) T.z_tuple (by decide +kernel) (pa_cons (pv 4) pa_nil)))))))), (s_own (da_nil ⟨lenLe 0 (by decide), fun p1 _ => (s_for (S := (List D)) (js := [2]) (fun (s : List D) (r : List Sl) => ∃ t3 t4 : Sl, r = [.d x0, .mu p1 s, t4, t3, .un, .un, .un]) _ [] _ (i_seq (de_var rfl h0)) ⟨_, _, rfl⟩ (fun y5 s6 _ n7 b8 e38 h37 => (by obtain ⟨t3, t4, rfl⟩ := e38; exact (dg_name (s_asg (e_tup (da_cons (De.imp (e_lenSetS (de_var rfl h37)) fun v9 h41 => (da_cons (De.imp (e_sortedSetS (de_var rfl h41)) fun v10 h42 => (da_nil ⟨lenLe 2 (by decide), (ds_last (s_ifR (DT.imp (t_test (e_op2 l_nin (De.v (de_var rfl (dv_mu rfl h42))))) fun b11 h45 => (ite_split h45 (fun h43 => (ds_last (s_append rfl (de_var rfl ⟨And.left h43, (ds_next (ds_nextK rfl (s6 ++ [(D.tup [v9, v10])]) (And.right h43) ⟨_, _, rfl⟩))⟩)))) (fun h44 => (ds_next (ds_nextK rfl s6 h44 ⟨_, _, rfl⟩)))))))⟩)))))))))) (fun s13 _ e40 h39 => (by obtain ⟨t3, t4, rfl⟩ := e40; exact (s_own (da_nil ⟨lenLe 0 (by decide), fun p14 _ => (s_for (S := (List D)) (js := [5, 2]) (fun (s : List D) (r : List Sl) => ∃ t16 t17 : Sl, r = [.d x0, .mu p1 s13, t17, t3, .mu p14 s, t16, .un]) _ [] _ (i_seq (e_cb l_sortedA (dav_cons (dv_mu rfl (dav_nil h39))))) ⟨_, _, rfl⟩ (fun y18 s19 _ n20 b21 e47 h46 => (by obtain ⟨t16, t17, rfl⟩ := e47; exact (dg_un2 h46 fun v22 v23 h50 => (ds_last (s_ifR (DT.imp (t_test (e_op2 l_eq (De.v (De.imp (e_compMu _ (js := [6]) (by decide) rfl h50 (fun _ v24 _ h55 => (dg_name (DT.imp (t_B (e_callP2 (w := p__law_within) (de_var rfl (de_var rfl h55)))) fun b26 h57 => (ite_split h57 (fun h56 => (de_var rfl h56)) id))))) fun v31 h54 => (De.v (e_lst (da_nil ⟨lenLe 0 (by decide), h54⟩))))))) fun b29 h53 => (ite_split h53 (fun h51 => (ds_last (s_append rfl (De.imp (e_cb l_tupleOf (dav_cons (De.v (de_var rfl (dav_nil h51))))) fun v28 h58 => ⟨And.left h58, (ds_next (ds_nextK rfl (s19 ++ [v28]) (And.right h58) ⟨_, _, rfl⟩))⟩)))) (fun h52 => (ds_next (ds_nextK rfl s19 h52 ⟨_, _, rfl⟩)))))))))) (fun s32 _ e49 h48 => (by obtain ⟨t16, t17, rfl⟩ := e49; exact (s_ret (e_cb l_tupleOf (dav_cons (dv_mu rfl (dav_nil h48))))))))⟩)))))⟩))⟩
set_option maxHeartbeats 0 in
theorem ok__law_drawn_sets (T : Tx P w K mg base) : FnOk P w K mg base CX0 3 T.f__law_drawn_sets T.fd__law_drawn_sets ["_law_deal_here", "_law_names"] (SpDl K (W.a1 p__law_drawn_sets)) := by
  refine fn_w (k := 2) (S := dealS) (W := dealW (W.a1 p__law_drawn_sets)) T.F__law_drawn_sets sc__law_drawn_sets (fun g ds k h => by obtain ⟨r, rfl, h⟩ := h; obtain ⟨_, rfl, _⟩ := a1_e h; rfl) fun cdv A outer s H E g ds kr F1 f0 tr hr h => ?_
  have hu := hr.units
  have hu65 := hr.units65
  obtain ⟨r, rfl, h⟩ := h
  obtain ⟨x1, rfl, h0⟩ := a1_e h
  unfold p__law_drawn_sets at h0
  exact ⟨_, (pss_cons (ps_set (i := 2) sc__law_drawn_sets.nd rfl (Or.inl rfl) (pe_lst pa_nil)) (pss_cons (ps_for PassesOwn.never rfl (pi_range1 (by rfl) T.z_range (pa_cons (pe_ix (show IxR _ (rIx K) from ix_seq) (pe_lst (pa_cons (pe_call (ok__law_draw T) (hr.mono (by decide)) (by rfl) T.g__law_draw T.k__law_draw T.b__law_draw .nil pass0 (pa_cons (pv 0) (pa_cons pe_int pa_nil))) (pa_cons pe_int pa_nil))) (pe_callTy (show CallR _ _ (fun xs H Q => (∃ i, xs = [V.int i] ∧ Q (.int i) H) ∨ ∃ k, xs = [V.bl k] ∧ Q (.int (if k then 1 else 0)) H) from call_int1) (by rfl) T.z_int (by decide +kernel) (pa_cons (pe_cmpR (op_eqW hu) (pe_call (ok__law_draw T) (hr.mono (by decide)) (by rfl) T.g__law_draw T.k__law_draw T.b__law_draw .nil pass0 (pa_cons (pv 0) (pa_cons pe_int pa_nil))) pe_int (nomark _)) pa_nil)) (fun _ _ => rfl)) pa_nil)) (pg_name (i := 3) sc__law_drawn_sets.nd rfl (Or.inl rfl)) (pss_cons (ps_set (i := 4) sc__law_drawn_sets.nd rfl (Or.inl rfl) (pe_ix (show IxR _ (rIx K) from ix_seq) (pe_lst (pa_cons pe_int (pa_cons pe_int (pa_cons pe_int (pa_cons pe_int (pa_cons pe_int (pa_cons pe_int (pa_cons pe_int (pa_cons (pe_callB (show CallR _ _ (rLenW K) from call_lenW) (by rfl) T.z_len PySem.boot_len (pa_cons (pv 1) pa_nil)) pa_nil))))))))) (pe_call (ok__law_draw T) (hr.mono (by decide)) (by rfl) T.g__law_draw T.k__law_draw T.b__law_draw .nil pass0 (pa_cons (pv 0) (pa_cons pe_int pa_nil))) (fun _ _ => rfl))) (pss_cons (ps_set (i := 5) sc__law_drawn_sets.nd rfl (Or.inl rfl) (pe_slice (show L2.SlR _ (rSlW K) from sl_W) (pe_call (ok__law_mixed T) (hr.mono (by decide)) (by rfl) T.g__law_mixed T.k__law_mixed T.b__law_mixed .nil pass0 (pa_cons (pv 0) (pa_cons (pv 1) pa_nil))) po_none (po_some (pv 4)))) (pss_one (ps_expr (pe_bm PySem.F.plainAttrs_list PySem.F.slot_list_append PySem.F.type_list_append mt_append (pv 2) (pa_cons (pe_op op_addW (pv 5) (pe_slice (show L2.SlR _ (rSlW K) from sl_W) (pv 5) po_none (po_some (pe_callTy (show CallR _ _ (fun xs H Q => (∃ i, xs = [V.int i] ∧ Q (.int i) H) ∨ ∃ k, xs = [V.bl k] ∧ Q (.int (if k then 1 else 0)) H) from call_int1) (by rfl) T.z_int (by decide +kernel) (pa_cons (pe_cmpR (op_eqW hu) (pe_call (ok__law_draw T) (hr.mono (by decide)) (by rfl) T.g__law_draw T.k__law_draw T.b__law_draw .nil pass0 (pa_cons (pv 0) (pa_cons pe_int pa_nil))) pe_int (nomark _)) pa_nil))))) pa_nil))))))) (pss_one (ps_ret (pv 2))))), (s_own (da_nil ⟨lenLe 0 (by decide), fun p1 _ => (s_for (S := (List D)) (js := [3]) (fun (s : List D) (r : List Sl) => ∃ t3 t4 t5 : Sl, r = [.d (.ref g.1), .d x1, .mu p1 s, t5, t3, t4]) _ [] _ (i_range1 (e_op2 l_ix (De.v (e_lst (da_cons (De.imp (e_callD1 (w := W.draw) g rfl rfl (i := 0) rfl (de_int h0)) fun v25 h42 => (da_cons (de_int (da_nil ⟨lenLe 2 (by decide), (De.v (e_cb l_int1 (dav_cons (De.v (De.imp (e_op2 l_eq (De.v (De.imp (e_callD1 (w := W.draw) g rfl rfl (i := 0) rfl (de_int h42)) fun v28 h44 => (De.v (de_int h44))))) fun v27 h43 => (dav_nil h43))))))⟩))))))))) ⟨_, _, _, rfl⟩ (fun y6 s7 _ n8 b9 e30 h29 => (by obtain ⟨t3, t4, t5, rfl⟩ := e30; exact (dg_name (s_asg (De.imp (e_op2 l_ix (De.v (e_lst (da_cons (de_int (da_cons (de_int (da_cons (de_int (da_cons (de_int (da_cons (de_int (da_cons (de_int (da_cons (de_int (da_cons (De.imp (e_cb l_len (dav_cons (De.v (de_var rfl (dav_nil h29))))) fun v11 h34 => (da_nil ⟨lenLe 8 (by decide), (De.v (e_callD1 (w := W.draw) g rfl rfl (i := 0) rfl (de_int h34)))⟩)))))))))))))))))))) fun v10 h33 => (s_asg (De.imp (e_sl l_sl (De.v (De.imp (e_callD1 (w := p__law_mixed) g rfl rfl (i := 0) rfl (de_var rfl h33)) fun v14 h36 => (do_none (DO.imp (o_some (de_var rfl h36)) fun o15 h37 => h37))))) fun v13 h35 => (ds_last (s_append rfl (De.imp (e_op2 l_add (De.v (de_var rfl (De.v (e_sl l_sl (De.v (de_var rfl (do_none (DO.imp (o_some (e_cb l_int1 (dav_cons (De.v (De.imp (e_op2 l_eq (De.v (De.imp (e_callD1 (w := W.draw) g rfl rfl (i := 0) rfl (de_int h35)) fun v21 h41 => (De.v (de_int h41))))) fun v20 h40 => (dav_nil h40)))))) fun o18 h39 => h39))))))))) fun v16 h38 => ⟨And.left h38, (ds_nextK rfl (s7 ++ [v16]) (And.right h38) ⟨_, _, _, rfl⟩)⟩)))))))))) (fun s22 _ e32 h31 => (by obtain ⟨t3, t4, t5, rfl⟩ := e32; exact (s_freeze 2 rfl (s_ret (de_var rfl h31))))))⟩))⟩
set_option maxHeartbeats 0 in
theorem ok__law_truth (T : Tx P w K mg base) : FnOk P w K mg base CX0 1 T.f__law_truth T.fd__law_truth ["_law_found", "_law_due"] (SpP0 K (W.a2 (p__law_truth T.c))) := by
  refine fn_w (k := 0) (S := pure0) (W := fun _ => W.a2 (p__law_truth T.c)) T.F__law_truth sc__law_truth (fun g ds k h => by obtain ⟨_, _, rfl, _⟩ := a2_e h; rfl) fun cdv A outer s H E g ds kr F1 f0 tr hr h => ?_
  have hu := hr.units
  have hu65 := hr.units65
  obtain ⟨x0, x1, rfl, h0⟩ := a2_e h
  unfold p__law_truth at h0
  exact ⟨_, (pss_one (ps_ret (pe_and (pe_callB (show CallR _ _ (rIsi K) from call_isi) (by rfl) T.z_isinstance (by decide +kernel) (pa_cons (pv 0) (pa_cons (pe_bltn (v := V.ty "bool") (u := Value.type "bool") (by rfl) T.z_bool (by decide +kernel) rfl) pa_nil))) (pe_one (pe_cmpR (op_eqW hu) (pv 0) (pv 1) (nomark _)))))), (s_ret (e_andV (De.imp (e_isiC T.kit (u := (Value.type "bool")) (ClsV.ty "bool") T.k_isi_bool (De.v (de_var rfl h0))) fun v6 h6 => (truth_imp h6 fun _ h => W.ite.imp h (fun h7 => (e_op2 l_eq (De.v (de_var rfl (De.v (de_var rfl h7)))))) id))))⟩
set_option maxHeartbeats 0 in
theorem ok_law (T : Tx P w K mg base) (hm : ∀ ns : List Int, ns.length ≤ 63 → p_law T.c (.lst (ns.map D.int)) fun d => d = .bl true) : FnG P w K mg base 5 T.f_law T.fd_law ["_law_script"] (spLaw K) := by
  refine fng_of T.F_law sc_law (fun vs H Q E ⟨a, ns, e, _⟩ => by rw [e]; rfl) fun cdv A outer s H vs Q E hg hr h => ?_
  obtain ⟨a, ns, rfl, hS, hlen, q⟩ := h
  have hu := hr.units
  have hu65 := hr.units65
  refine ⟨_, (pss_cons (ps_set (i := 1) sc_law.nd rfl (Or.inr rfl) (pe_call (ok__law_deal T) (hr.mono (by decide)) (by rfl) T.g__law_deal T.k__law_deal T.b__law_deal .nil pass0 (pa_cons (pv 0) (pa_cons pe_int pa_nil)))) (pss_cons (ps_for PassesOwn.never rfl (pi_range1 (by rfl) T.z_range (pa_cons (pe_op op_addW pe_int (pe_callB (show CallR _ _ (rLenW K) from call_lenW) (by rfl) T.z_len PySem.boot_len (pa_cons (pe_slice (show L2.SlR _ (rSlW K) from sl_W) (pv 0) po_none (po_some pe_int)) pa_nil))) pa_nil)) (pg_name (i := 2) sc_law.nd rfl (Or.inl rfl)) (pss_cons (ps_set (i := 3) sc_law.nd rfl (Or.inl rfl) (pe_call (ok__law_words T) (hr.mono (by decide)) (by rfl) T.g__law_words T.k__law_words T.b__law_words .nil pass0 (pa_cons (pv 1) (pa_cons (pe_ix (show IxR _ (rIx K) from ix_seq) (pe_lst (pa_cons pe_int (pa_cons pe_int (pa_cons pe_int (pa_cons pe_int (pa_cons pe_int (pa_cons pe_int pa_nil))))))) (pe_call (ok__law_draw T) (hr.mono (by decide)) (by rfl) T.g__law_draw T.k__law_draw T.b__law_draw .nil pass0 (pa_cons (pv 1) (pa_cons pe_int pa_nil))) (fun _ _ => rfl)) pa_nil)))) (pss_cons (ps_set (i := 4) sc_law.nd rfl (Or.inl rfl) (pe_call (ok__law_drawn_sets T) (hr.mono (by decide)) (by rfl) T.g__law_drawn_sets T.k__law_drawn_sets T.b__law_drawn_sets .nil pass0 (pa_cons (pv 1) (pa_cons (pv 3) pa_nil)))) (pss_cons (ps_setLc (i := 5) (own := [("_law_row", 8)]) (g := (gName 8)) (tt := tYes) (te := (tIf (tTest (tOp (rEqW K) (tCall (SpDl K (W.a1 W.draw)) [] _ (tCons (tVar 1) (tCons (tC (.int 2)) tNil))) (tC (.int 0)))) (tCB (fun xs H Q => ∃ p ys, xs = [.ref p] ∧ (SqL K H p ys ∨ SqT K H p ys) ∧ ∀ l, H l = none → Q (.ref l) (upd H l (.lst ys))) (tCons (tVar 8) tNil)) (tCB (fun xs H Q => ∃ p ys, xs = [.ref p] ∧ ((SqL K H p ys ∧ ∀ l, H l = none → Q (.ref l) (upd H l (.tup ys))) ∨ (SqT K H p ys ∧ Q (.ref p) H))) (tCons (tVar 8) tNil)))) rfl sc_law.nd rfl rfl (sw_true rfl rfl rfl (by decide +kernel)) (pi_seq (pv 4)) (blkOk_by (by kernel_rfl)) (fun _ _ _ _ _ => (pg_name (i := 8) sc_law.nd rfl (Or.inl rfl))) (fun _ _ _ _ _ => pts_nil) (fun _ _ _ _ _ => (pe_ifExp (pt_cmpR (op_eqW hu) (pe_call (ok__law_draw T) (hr.mono (by decide)) (by rfl) T.g__law_draw T.k__law_draw T.b__law_draw .nil pass0 (pa_cons (pv 1) (pa_cons pe_int pa_nil))) pe_int (nomark _)) (pe_callTy (show CallR _ _ (fun xs H Q => ∃ p ys, xs = [.ref p] ∧ (SqL K H p ys ∨ SqT K H p ys) ∧ ∀ l, H l = none → Q (.ref l) (upd H l (.lst ys))) from call_list_of) (by rfl) T.z_list (by decide +kernel) (pa_cons (pv 8) pa_nil)) (pe_callTy (show CallR _ _ (fun xs H Q => ∃ p ys, xs = [.ref p] ∧ ((SqL K H p ys ∧ ∀ l, H l = none → Q (.ref l) (upd H l (.tup ys))) ∨ (SqT K H p ys ∧ Q (.ref p) H))) from call_tuple_of) (by rfl) T.z_tuple (by decide +kernel) (pa_cons (pv 8) pa_nil))))) (pss_cons (ps_set (i := 6) sc_law.nd rfl (Or.inl rfl) (ClX.pe_cmeth (pe_glob (by rfl) T.g_Rule (show RelV (.ref T.c.Rule) _ from rfl)) T.cr_Rule T.cm_Rule_of_sets (FnOk.raw0 (ok_Rule_of_sets T) T.b_Rule_of_sets) (hr.mono (by decide)) pass0 (pa_cons (pe_ifExp (pt_cmpR (op_eqW hu) (pe_call (ok__law_draw T) (hr.mono (by decide)) (by rfl) T.g__law_draw T.k__law_draw T.b__law_draw .nil pass0 (pa_cons (pv 1) (pa_cons pe_int pa_nil))) pe_int (nomark _)) (pv 5) (pe_callTy (show CallR _ _ (fun xs H Q => ∃ p ys, xs = [.ref p] ∧ ((SqL K H p ys ∧ ∀ l, H l = none → Q (.ref l) (upd H l (.tup ys))) ∨ (SqT K H p ys ∧ Q (.ref p) H))) from call_tuple_of) (by rfl) T.z_tuple (by decide +kernel) (pa_cons (pv 5) pa_nil))) pa_nil))) (pss_cons (ps_set (i := 7) sc_law.nd rfl (Or.inr rfl) (pe_call (ok__law_least T) (hr.mono (by decide)) (by rfl) T.g__law_least T.k__law_least T.b__law_least .nil pass0 (pa_cons (pv 4) pa_nil))) (pss_cons (ps_if (pt_cmpR (op_neW hu) (pe_lc (own := [("_law_row", 8)]) (g := (gName 8)) (tt := tYes) (te := (tCB (fun xs H Q => ∃ p ys, xs = [.ref p] ∧ ((SqL K H p ys ∧ ∀ l, H l = none → Q (.ref l) (upd H l (.tup ys))) ∨ (SqT K H p ys ∧ Q (.ref p) H))) (tCons (tVar 8) tNil))) (by rfl) sc_law.nd (pi_seq (pv 5)) (blkOk_by (by kernel_rfl)) (fun _ _ _ _ _ => (pg_name (i := 8) sc_law.nd rfl (Or.inl rfl))) (fun _ _ _ _ _ => pts_nil) (fun _ _ _ _ _ => (pe_callTy (show CallR _ _ (fun xs H Q => ∃ p ys, xs = [.ref p] ∧ ((SqL K H p ys ∧ ∀ l, H l = none → Q (.ref l) (upd H l (.tup ys))) ∨ (SqT K H p ys ∧ Q (.ref p) H))) from call_tuple_of) (by rfl) T.z_tuple (by decide +kernel) (pa_cons (pv 8) pa_nil)))) (pe_lc (own := [("_law_row", 8)]) (g := (gName 8)) (tt := tYes) (te := (tCB (fun xs H Q => ∃ p ys, xs = [.ref p] ∧ ((SqL K H p ys ∧ ∀ l, H l = none → Q (.ref l) (upd H l (.tup ys))) ∨ (SqT K H p ys ∧ Q (.ref p) H))) (tCons (tVar 8) tNil))) (by rfl) sc_law.nd (pi_seq (pv 4)) (blkOk_by (by kernel_rfl)) (fun _ _ _ _ _ => (pg_name (i := 8) sc_law.nd rfl (Or.inl rfl))) (fun _ _ _ _ _ => pts_nil) (fun _ _ _ _ _ => (pe_callTy (show CallR _ _ (fun xs H Q => ∃ p ys, xs = [.ref p] ∧ ((SqL K H p ys ∧ ∀ l, H l = none → Q (.ref l) (upd H l (.tup ys))) ∨ (SqT K H p ys ∧ Q (.ref p) H))) from call_tuple_of) (by rfl) T.z_tuple (by decide +kernel) (pa_cons (pv 8) pa_nil)))) (nomark _)) (pss_one (ps_ret pe_bl)) pss_nil) (pss_cons (ps_for PassesOwn.never rfl (pi_seq (pv 5)) (pg_name (i := 8) sc_law.nd rfl (Or.inl rfl)) (pss_one (ps_if (pt_val (pe_callB (show CallR _ _ (rIsi K) from call_isi) (by rfl) T.z_isinstance (by decide +kernel) (pa_cons (pv 8) (pa_cons (pe_bltn (v := V.ty "list") (u := Value.type "list") (by rfl) T.z_list (by decide +kernel) rfl) pa_nil)))) (pss_one (ps_expr (pe_bm0 PySem.F.plainAttrs_list PySem.F.slot_list_clear PySem.F.type_list_clear mt_clear (pv 8)))) pss_nil))) (pss_cons (ps_expr (pe_bm0 PySem.F.plainAttrs_list PySem.F.slot_list_clear PySem.F.type_list_clear mt_clear (pv 5))) (pss_cons (ps_setLc (i := 9) (own := [("_law_name", 13)]) (g := (gName 13)) (tt := (tTest (tOp (rNeW K) (tLc (iSeq K (tVar 7)) (gName 8) (tTest (tOp (rInW K) (tVar 13) (tVar 8))) (tVar 8) ([("_law_row", 8)].map (·.2))) (tLst tNil)))) (te := (tVar 13)) rfl sc_law.nd rfl rfl (sw_true rfl rfl rfl (by decide +kernel)) (pi_seq (pe_callB (show CallR _ _ (rSortedA K) from (cr_sortedA hu)) (by rfl) T.z_sorted (by decide +kernel) (pa_cons (pv 3) pa_nil))) (blkOk_by (by kernel_rfl)) (fun _ _ _ _ _ => (pg_name (i := 13) sc_law.nd rfl (Or.inr rfl))) (fun _ _ _ _ _ => (pts_one (pt_cmpR (op_neW hu) (pe_lc (own := [("_law_row", 8)]) (g := (gName 8)) (tt := (tTest (tOp (rInW K) (tVar 13) (tVar 8)))) (te := (tVar 8)) (by rfl) sc_law.nd (pi_seq (pv 7)) (blkOk_by (by kernel_rfl)) (fun _ _ _ _ _ => (pg_name (i := 8) sc_law.nd rfl (Or.inl rfl))) (fun _ _ _ _ _ => (pts_one (pt_cmpR (op_inW hu65) (pv 13) (pv 8) (by rfl)))) (fun _ _ _ _ _ => (pv 8))) (pe_lst pa_nil) (nomark _)))) (fun _ _ _ _ _ => (pv 13))) (pss_cons (ps_if (PW.pt (pw_or (pt_cmpR (op_neW hu) (pe_callB (show CallR _ _ (rReprD K) from (call_reprD hg hu)) (by rfl) T.z_repr (by decide +kernel) (pa_cons (pe_fld (pv 6) rfl) pa_nil)) (pe_callB (show CallR _ _ (rReprD K) from (call_reprD hg hu)) (by rfl) T.z_repr (by decide +kernel) (pa_cons (pv 7) pa_nil)) (nomark _)) (pw_or1 (pt_cmpR (op_neW hu) (pe_callB (show CallR _ _ (rReprD K) from (call_reprD hg hu)) (by rfl) T.z_repr (by decide +kernel) (pa_cons (pe_fld (pv 6) rfl) pa_nil)) (pe_callB (show CallR _ _ (rReprD K) from (call_reprD hg hu)) (by rfl) T.z_repr (by decide +kernel) (pa_cons (pe_callTy (show CallR _ _ (fun xs H Q => ∃ p ys, xs = [.ref p] ∧ ((SqL K H p ys ∧ ∀ l, H l = none → Q (.ref l) (upd H l (.tup ys))) ∨ (SqT K H p ys ∧ Q (.ref p) H))) from call_tuple_of) (by rfl) T.z_tuple (by decide +kernel) (pa_cons (pv 9) pa_nil)) pa_nil)) (nomark _))))) (pss_one (ps_ret pe_bl)) pss_nil) (pss_cons (ps_for PassesOwn.never rfl (pi_range1 (by rfl) T.z_range (pa_cons pe_int pa_nil)) (pg_name (i := 10) sc_law.nd rfl (Or.inl rfl)) (pss_cons (ps_set (i := 11) sc_law.nd rfl (Or.inl rfl) (pe_op op_addW (pe_call (ok__law_some T) (hr.mono (by decide)) (by rfl) T.g__law_some T.k__law_some T.b__law_some .nil pass0 (pa_cons (pv 1) (pa_cons (pv 3) (pa_cons (pe_op op_addW pe_int (pe_call (ok__law_draw T) (hr.mono (by decide)) (by rfl) T.g__law_draw T.k__law_draw T.b__law_draw .nil pass0 (pa_cons (pv 1) (pa_cons pe_int pa_nil)))) pa_nil)))) (pe_op op_mulW2 (pe_lst (pa_cons pe_str pa_nil)) (pe_call (ok__law_draw T) (hr.mono (by decide)) (by rfl) T.g__law_draw T.k__law_draw T.b__law_draw .nil pass0 (pa_cons (pv 1) (pa_cons pe_int pa_nil)))))) (pss_cons (ps_set (i := 11) sc_law.nd rfl (Or.inl rfl) (pe_op op_addW (pv 11) (pe_slice (show L2.SlR _ (rSlW K) from sl_W) (pv 11) po_none (po_some (pe_call (ok__law_draw T) (hr.mono (by decide)) (by rfl) T.g__law_draw T.k__law_draw T.b__law_draw .nil pass0 (pa_cons (pv 1) (pa_cons pe_int pa_nil))))))) (pss_cons (ps_set (i := 12) sc_law.nd rfl (Or.inl rfl) (pe_ix (show IxR _ (rIx K) from ix_seq) (pe_lst (pa_cons (pv 11) (pa_cons (pe_callTy (show CallR _ _ (fun xs H Q => ∃ p ys, xs = [.ref p] ∧ ((SqL K H p ys ∧ ∀ l, H l = none → Q (.ref l) (upd H l (.tup ys))) ∨ (SqT K H p ys ∧ Q (.ref p) H))) from call_tuple_of) (by rfl) T.z_tuple (by decide +kernel) (pa_cons (pv 11) pa_nil)) pa_nil))) (pe_call (ok__law_draw T) (hr.mono (by decide)) (by rfl) T.g__law_draw T.k__law_draw T.b__law_draw .nil pass0 (pa_cons (pv 1) (pa_cons pe_int pa_nil))) (fun _ _ => rfl))) (pss_one (ps_if (PW.pt (pw_or (pt_not (pt_val (pe_call (ok__law_truth T) (hr.mono (by decide)) (by rfl) T.g__law_truth T.k__law_truth T.b__law_truth .nil pass0 (pa_cons (pe_callO (E := fun _ _ _ => False) (ok_Rule___call__ T) (hr.mono (by decide)) T.b_Rule___call__ T.at_Rule___call__ T.fn_Rule___call__ T.fi_Rule___call__ (pv 6) (pa_cons (pv 12) pa_nil)) (pa_cons (pe_call (ok__law_holds T) (hr.mono (by decide)) (by rfl) T.g__law_holds T.k__law_holds T.b__law_holds .nil pass0 (pa_cons (pv 4) (pa_cons (pv 11) pa_nil))) pa_nil))))) (pw_or1 (pt_cmpR (op_neW hu) (pe_callO (E := fun _ _ _ => False) (ok_Rule___call__ T) (hr.mono (by decide)) T.b_Rule___call__ T.at_Rule___call__ T.fn_Rule___call__ T.fi_Rule___call__ (pv 6) (pa_cons (pv 12) pa_nil)) (pe_callO (E := fun _ _ _ => False) (ok_Rule___call__ T) (hr.mono (by decide)) T.b_Rule___call__ T.at_Rule___call__ T.fn_Rule___call__ T.fi_Rule___call__ (pv 6) (pa_cons (pe_callTy (show CallR _ _ (fun xs H Q => ∃ p ys, xs = [.ref p] ∧ ((SqL K H p ys ∧ ∀ l, H l = none → Q (.ref l) (upd H l (.tup ys))) ∨ (SqT K H p ys ∧ Q (.ref p) H))) from call_tuple_of) (by rfl) T.z_tuple (by decide +kernel) (pa_cons (pv 12) pa_nil)) pa_nil)) (nomark _))))) (pss_one (ps_ret pe_bl)) pss_nil)))))) (pss_one (ps_if (pt_cmpR (op_neW hu) (pe_callB (show CallR _ _ (rReprD K) from (call_reprD hg hu)) (by rfl) T.z_repr (by decide +kernel) (pa_cons (pe_fld (pv 6) rfl) pa_nil)) (pe_callB (show CallR _ _ (rReprD K) from (call_reprD hg hu)) (by rfl) T.z_repr (by decide +kernel) (pa_cons (pv 7) pa_nil)) (nomark _)) (pss_one (ps_ret pe_bl)) pss_nil)))))))))))))) (pss_one (ps_ret pe_bl)))), ?_⟩
  refine ⟨_, rfl, a, ns, 0, rfl, hS, hlen, Int.le_refl _, by decide, fun g H1 m1 m2 sm hD => ?_⟩
  have f0 : ∀ x, dealS.F0 g x → x = g.1 ∨ x = g.2 := fun x h => h
  have tr : ∀ x, (x = g.1 ∨ x = g.2) → H1 x ≠ none := fun x h => dealS.tk g H1 x hD h
  have pa : RepL K (fun x => x = g.1 ∨ x = g.2) H1 [.lst (ns.map D.int)] [.ref a] := by
    have l0 : LAt K (fun x => x = g.1 ∨ x = g.2) H a (ns.map V.int) := (lat_of hS).gen fun x hx => .inr (by
      rcases hx with rfl | rfl
      · exact m1
      · exact m2)
    exact .one ⟨a, _, rfl, l0.mono (fun x o _ e => sm x o e), repL_of_ints ns⟩
  have R0 := (start_rp (M := mdOf K dealS g H1 _ f0 tr) (N := n_law) pa hD).set (i := 1) (v := .ref g.1) (s := .d (.ref g.1)) ⟨_, rfl, rfl⟩ (fun p xs e => nomatch e)
  dsimp only [gName]
  have h0 := hm ns hlen
  unfold p_law at h0
  refine (?_ : DS (mdOf K dealS g H1 _ f0 tr) _ [] ((startR n_law.length [.lst (ns.map D.int)]).set 1 (.d (.ref g.1))) { nx := fun _ _ => (fun d : D => d = .bl true) .non, rt := fun d => d = .bl true }) _ H1 _ R0 ⟨fun _ _ _ _ _ _ z => (nomatch z), fun v H2 d _ _ p e => by
    subst e
    obtain rfl : v = .bl true := p
    exact q _, fun _ _ _ _ _ _ z => z.elim, fun _ _ _ _ _ _ z => z.elim⟩
  generalize (D.lst (ns.map D.int)) = x0 at *
  exact (s_for (S := (Unit)) (js := [2]) (fun (s : Unit) (r : List Sl) => ∃ t1 t2 t3 t4 t5 t6 t7 t8 t9 t10 t11 : Sl, r = [.d x0, .d (.ref g.1), t11, t1, t2, t3, t4, t5, t6, t7, t8, t9, t10, .un]) _ () _ (i_range1 (e_op2 l_add (De.v (de_int (De.v (e_cb l_len (dav_cons (De.v (De.imp (e_sl l_sl (De.v (de_var rfl (do_none (DO.imp (o_some (de_int h0)) fun o122 h191 => h191))))) fun v121 h190 => (dav_nil h190)))))))))) ⟨_, _, _, _, _, _, _, _, _, _, _, rfl⟩ (fun y12 s13 _ n14 b15 e124 h123 => (by obtain ⟨t1, t2, t3, t4, t5, t6, t7, t8, t9, t10, t11, rfl⟩ := e124; exact (dg_name (s_asg (De.imp (e_callD1 (w := p__law_words) g rfl rfl (i := 1) rfl (e_op2 l_ix (De.v (e_lst (da_cons (de_int (da_cons (de_int (da_cons (de_int (da_cons (de_int (da_cons (de_int (da_cons (de_int (da_nil ⟨lenLe 6 (by decide), (De.v (e_callD1 (w := W.draw) g rfl rfl (i := 1) rfl (de_int h123)))⟩))))))))))))))))) fun v16 h127 => (s_asg (De.imp (e_callD1 (w := p__law_drawn_sets) g rfl rfl (i := 1) rfl (de_var rfl h127)) fun v19 h128 => (s_mid (ih := 5) (ij := 8) (ir := 6) (id := 7) T.kt_list (by decide) (by decide) (by decide) (by decide) (by decide) (by decide) (by show 5 < 14; decide) (by show 8 < 14; decide) (DeF.imp (deF_comp _ (by decide) (i_seq (de_var rfl h128)) (fun _ v20 q21 h129 => (deE_if (DT.imp (t_test (e_op2 l_eq (De.v (De.imp (e_callD1 (w := W.draw) g rfl rfl (i := 1) rfl (de_int h129)) fun v98 h136 => (De.v (de_int h136)))))) fun b96 h135 => (ite_split h135 (fun h133 => (deE_list (de_var rfl h133))) (fun h134 => (deE_of (e_cb l_tupleOf (dav_cons (De.v (de_var rfl (dav_nil (tup_yes h134))))))))))))) fun hs22 h137 => (De.imp (e_cmeth (w := (W.a2 (p_Rule_of_sets T.c))) (de_c (.ref T.c.Rule) (fun _ _ => rfl) ⟨rfl, (da_cons (De.imp (e_if (DT.imp (t_test (e_op2 l_eq (De.v (De.imp (e_callD1 (w := W.draw) g rfl rfl (i := 1) rfl (de_int (W.join_go h137))) fun v144 h143 => (De.v (de_int h143)))))) fun b142 h142 => (W.ite.imp h142 (fun h140 => (de_var rfl h140)) (fun h141 => (e_cb l_tupleOf (dav_cons (De.v (de_var rfl (dav_nil h141))))))))) fun v105 h139 => (da_nil h139)))⟩)) fun v103 h138 => (by obtain ⟨v23, e, n, h⟩ := h138; subst e; exact ⟨n, (De.imp (e_callP1 (w := p__law_least) (de_var rfl h)) fun v110 h144 => (by obtain ⟨v24, e, n, h⟩ := h144; subst e; exact ⟨n, (DT.imp (t_test (e_op2 l_ne (De.v (De.imp (e_comp _ (js := [8]) (by decide) (i_seq (de_var rfl h)) (fun _ v25 _ h147 => (dg_name (dt_yes (iteT (e_cb l_tupleOf (dav_cons (De.v (de_var rfl (dav_nil h147)))))))))) fun v113 h146 => (De.v (e_comp _ (js := [8]) (by decide) (i_seq (de_var rfl h146)) (fun _ v28 _ h148 => (dg_name (dt_yes (iteT (e_cb l_tupleOf (dav_cons (De.v (de_var rfl (dav_nil h148))))))))))))))) fun b111 h145 => ⟨And.left h145, (s_asg (De.imp (e_comp _ (js := [13]) (by decide) (i_seq (e_cb l_sortedA (dav_cons (De.v (de_var rfl (dav_nil (And.right h145))))))) (fun _ v31 _ h150 => (dg_name (DT.imp (t_test (e_op2 l_ne (De.v (De.imp (e_comp _ (js := [8]) (by decide) (i_seq (de_var rfl h150)) (fun _ v32 _ h154 => (dg_name (DT.imp (t_test (e_op2 l_in (De.v (de_var rfl (De.v (de_var rfl h154)))))) fun b34 h156 => (ite_split h156 (fun h155 => (de_var rfl h155)) id))))) fun v39 h153 => (De.v (e_lst (da_nil ⟨lenLe 0 (by decide), h153⟩))))))) fun b37 h152 => (ite_split h152 (fun h151 => (de_var rfl h151)) id))))) fun v41 h149 => (s_ifR (DT.imp (t_or (DT.imp (t_test (e_op2 l_ne (De.v (De.imp (e_cb l_repr (dav_cons (De.v (De.imp (e_fld (cs := [T.c.Rule]) T.fl_Rule_least (De.v (de_var rfl h149))) fun v163 h166 => (dav_nil h166))))) fun v162 h165 => (De.v (e_cb l_repr (dav_cons (De.v (de_var rfl (dav_nil h165)))))))))) fun b160 h164 => (W.ite.imp h164 id (fun h160 => (t_test (e_op2 l_ne (De.v (De.imp (e_cb l_repr (dav_cons (De.v (De.imp (e_fld (cs := [T.c.Rule]) T.fl_Rule_names (De.v (de_var rfl h160))) fun v93 h162 => (dav_nil h162))))) fun v92 h161 => (De.v (e_cb l_repr (dav_cons (De.v (De.imp (e_cb l_tupleOf (dav_cons (De.v (de_var rfl (dav_nil h161))))) fun v95 h163 => (dav_nil h163)))))))))))))) fun b84 h159 => (ite_split h159 (fun h157 => (s_ret (de_bl h157))) (fun h158 => (ds_next (s_for (S := (Unit)) (js := [10]) (fun (s : Unit) (r : List Sl) => ∃ t44 t45 t46 : Sl, r = [.d x0, .d (.ref g.1), .d y12, .d v16, .d v19, .un, .d v23, .d v24, .un, .d v41, t46, t44, t45, .un]) _ () _ (i_range1 (de_int h158)) ⟨_, _, _, rfl⟩ (fun y47 s48 _ n49 b50 e168 h167 => (by obtain ⟨t44, t45, t46, rfl⟩ := e168; exact (dg_name (s_asg (De.imp (e_op2 l_add (De.v (De.imp (e_callD2 (w := p__law_some) g rfl rfl (i := 1) rfl (de_var rfl (e_op2 l_add (De.v (de_int (De.v (e_callD1 (w := W.draw) g rfl rfl (i := 1) rfl (de_int h167)))))))) fun v52 h172 => (De.v (e_op2 l_mul (De.v (e_lst (da_cons (de_str (da_nil ⟨lenLe 1 (by decide), (De.v (e_callD1 (w := W.draw) g rfl rfl (i := 1) rfl (de_int h172)))⟩)))))))))) fun v51 h171 => (s_asg (De.imp (e_op2 l_add (De.v (de_var rfl (De.v (e_sl l_sl (De.v (de_var rfl (do_none (DO.imp (o_some (e_callD1 (w := W.draw) g rfl rfl (i := 1) rfl (de_int h171))) fun o59 h174 => h174))))))))) fun v57 h173 => (s_asg (De.imp (e_op2 l_ix (De.v (e_lst (da_cons (de_var rfl (da_cons (De.imp (e_cb l_tupleOf (dav_cons (De.v (de_var rfl (dav_nil h173))))) fun v62 h176 => (da_nil ⟨lenLe 2 (by decide), (De.v (e_callD1 (w := W.draw) g rfl rfl (i := 1) rfl (de_int h176)))⟩)))))))) fun v61 h175 => (ds_last (s_ifR (DT.imp (t_or (DT.imp (t_not (t_B (e_callP2 (w := (p__law_truth T.c)) (De.imp (e_callO (w := (W.a2 (p_Rule___call__ T.c))) (de_var rfl ⟨And.left h175, (da_cons (de_var rfl (da_nil (And.right h175))))⟩)) fun v183 h184 => (e_callP2 (w := p__law_holds) (de_var rfl (de_var rfl h184))))))) fun b180 h183 => (W.ite.imp h183 id (fun h180 => (t_test (e_op2 l_ne (De.v (De.imp (e_callO (w := (W.a2 (p_Rule___call__ T.c))) (de_var rfl ⟨And.left h180, (da_cons (de_var rfl (da_nil (And.right h180))))⟩)) fun v73 h181 => (De.v (e_callO (w := (W.a2 (p_Rule___call__ T.c))) (de_var rfl ⟨And.left h181, (da_cons (De.imp (e_cb l_tupleOf (dav_cons (De.v (de_var rfl (dav_nil (And.right h181)))))) fun v75 h182 => (da_nil h182)))⟩))))))))))) fun b65 h179 => (ite_split h179 (fun h177 => (s_ret (de_bl h177))) (fun h178 => (ds_next (ds_nextK rfl () h178 ⟨_, _, _, rfl⟩)))))))))))))))) (fun s76 _ e170 h169 => (by obtain ⟨t44, t45, t46, rfl⟩ := e170; exact (ds_last (s_ifR (DT.imp (t_test (e_op2 l_ne (De.v (De.imp (e_cb l_repr (dav_cons (De.v (De.imp (e_fld (cs := [T.c.Rule]) T.fl_Rule_least (De.v (de_var rfl h169))) fun v80 h189 => (dav_nil h189))))) fun v79 h188 => (De.v (e_cb l_repr (dav_cons (De.v (de_var rfl (dav_nil h188)))))))))) fun b77 h187 => (ite_split h187 (fun h185 => (s_ret (de_bl h185))) (fun h186 => (ds_next (ds_nextK rfl () h186 ⟨_, _, _, _, _, _, _, _, _, _, _, rfl⟩)))))))))))))))))⟩)⟩))⟩))))))))))) (fun s117 _ e126 h125 => (by obtain ⟨t1, t2, t3, t4, t5, t6, t7, t8, t9, t10, t11, rfl⟩ := e126; exact (s_ret (de_bl h125)))))
end
end Dw

namespace Dw
open PySem PySem.Spec PyProof.Rows L2
abbrev nDeal : List Str := ["_law_script", "_law_base", "_law_cell", "_law_cells", "_law_number"]
theorem scDeal : FnScope nDeal ["_law_script", "_law_base"] (defScope sDeal) := ⟨rfl, rfl, rfl, by decide +kernel, rfl, by decide +kernel, by decide +kernel⟩
abbrev nDraw : List Str := ["_law_deal_here", "_law_many", "_law_number", "_law_one", "_law_other"]
theorem scDraw : FnScope nDraw ["_law_deal_here", "_law_many"] (defScope sDraw) := ⟨rfl, rfl, rfl, by decide +kernel, rfl, by decide +kernel, by decide +kernel⟩
local macro_rules | `(tactic| walk_at "dw") => `(tactic| first
  | refine de_var rfl ?_ | refine de_int ?_ | refine de_str ?_ | refine de_bl ?_ | refine de_non ?_
  | refine de_intI ?_ | refine de_intB ?_ | refine de_intC ?_ | refine de_eq ?_ | refine de_ne ?_
  | refine da_nil ?_ | refine da_cons ?_ | refine de_max2 ?_ | refine do_none ?_ | refine do_some ?_ | refine dt_test ?_ | refine dt_B ?_ | refine dt_yes ?_
  | refine ⟨_, _, rfl, rfl, ?_⟩ | refine ⟨_, rfl, ?_⟩)
section
variable {P : Program} {w : World} {K : PySem.W.Frag} {mg : Str → Option Value} {base : Heap}
theorem ok_deal {f : Addr} {fd : FuncData} {k : Nat} (F : Fun K "_law_deal" "_law_deal" sDeal f fd) (mM : mg "max" = none) (mL : mg "list" = none) (mR : mg "reversed" = none) : FnOk P w K mg base CX0 (k + 1) f fd ["_law_script", "_law_base"] (spDeal K) := by
  refine F.ok scDeal (fun vs H Q E h => ?_) (fun cdv A outer s H vs Q E hr h => ?_)
  · obtain ⟨a, ns, b, rfl, _⟩ := h
    rfl
  · obtain ⟨a, ns, b, rfl, hS, hlen, b0, b1, q⟩ := h
    have hu := hu_of hr
    refine ⟨_, pss_cons (ps_setLc (i := 3) (own := [("_law_cell", 2)]) (g := gName 2) (tt := tYes) rfl scDeal.nd rfl rfl (sw_true rfl rfl rfl (by decide +kernel)) (pi_list (pe_slice sl_list (pv 0) (po_some (pv 1)) (po_some pe_int)))
          (blkOk_by (N := nDeal) (sc := defScope sDeal) (by decide +kernel)) (fun _ _ _ _ _ => pg_name (i := 2) scDeal.nd rfl (Or.inl rfl)) (fun _ _ _ _ _ => pts_nil)
          (fun _ _ _ _ _ => pe_callB (call_max2 rfl) (by rfl) mM (by decide +kernel) (pa_cons (pv 2) (pa_cons (pe_op op_sub pe_int (pv 2)) pa_nil))))
      (pss_cons (ps_set (i := 4) scDeal.nd rfl (Or.inl rfl) (pe_op op_add pe_int (pv 1)))
      (pss_cons (ps_for PassesOwn.never rfl (pi_list (pv 3)) (pg_name (i := 2) scDeal.nd rfl (Or.inl rfl))
          (pss_one (ps_set (i := 4) scDeal.nd rfl (Or.inl rfl) (pe_op op_mod (pe_op op_add (pe_op op_mul (pv 4) pe_int) (pe_op op_mod (pv 2) pe_int)) pe_int))))
      (pss_one (ps_ret (pe_disp (pps_cons pe_str (pv 4) (pps_cons pe_str pe_int (pps_cons pe_str
          (pe_listRev rfl (by rfl) mL (by rfl) mR (pe_lc (own := [("_law_cell", 2)]) (g := gName 2) (tt := _) (by rfl) scDeal.nd (pi_list (pv 3)) (blkOk_by (N := nDeal) (sc := defScope sDeal) (by decide +kernel))
            (fun _ _ _ _ _ => pg_name (i := 2) scDeal.nd rfl (Or.inl rfl)) (fun _ _ _ _ _ => pts_one (pt_cmpR op_ge (pv 2) (pe_op op_pow pe_int pe_int) (nomark _))) (fun _ _ _ _ _ => pv 2)))
          pps_nil))) (by rfl) (by rfl) (fun z => by cases z) (by decide)))))), ?_⟩
    have R0 : Rp (mdOf K pure0 () H (fun _ => False) (fun _ z => z.elim) (fun _ z => z.elim)) [] (startR 5 [.lst (ns.map D.int), .int b]) (L2.start nDeal [.ref a, .int b]) H :=
      start_rp (M := mdOf K pure0 () H (fun _ => False) (fun _ z => z.elim) (fun _ z => z.elim)) (N := nDeal) (.cons ⟨a, _, rfl, lat_of hS, repL_of_ints ns⟩ (.cons rfl .nil)) trivial
    -- the cells
    refine raw_seq (fun O r => O = [] ∧ ∃ cs : List Int, cs.length ≤ 63 ∧ (∀ c ∈ cs, 0 ≤ c) ∧ r = [.d (.lst (ns.map D.int)), .d (.int b), .un, .d (.lst (cs.map D.int)), .un]) R0 ?_ ?_
    · refine ds_asg (de_lcP (js := [2]) (fun _ _ y => ∃ n : Int, y = .int n ∧ 0 ≤ n) (fun j h => h) (di_list (de_slL ?_)))
      walk_at "dw"
      refine ⟨_, rfl, ?_⟩
      repeat walk_at "dw"
      have hl : (cutD (ns.map D.int) (some b) (some 63)).length ≤ 63 := Nat.le_trans (cutD_len _ _ _) (by rw [List.length_map]; exact hlen)
      refine ⟨Nat.lt_of_le_of_lt hl (by decide), fun O' i x hx => ?_, fun ys hy hc => ?_⟩
      · obtain ⟨n, rfl⟩ : ∃ n, x = D.int n := by
          have h1 := List.mem_of_getElem? hx
          have h2 := List.mem_of_mem_drop (List.mem_of_mem_take h1)
          obtain ⟨n, _, e⟩ := List.mem_map.mp h2
          exact ⟨n, e.symm⟩
        refine dg_name ?_
        repeat walk_at "dw"
        split <;> omega
      · obtain ⟨ms, rfl, hm⟩ := ints_of (P := fun n => 0 ≤ n) fun i y e => by
          obtain ⟨x, ex⟩ : ∃ x, (cutD (ns.map D.int) (some b) (some 63))[i]? = some x := ⟨_, List.getElem?_eq_getElem (by rw [← hy]; exact (List.getElem?_eq_some_iff.mp e).1)⟩
          exact hc i x y ex e
        rw [List.length_map] at hy
        exact ⟨rfl, ms, by omega, hm, rfl⟩
    intro O1 r1 σ1 H1 R1 s1 ⟨e1, cs, hcl, hc, e2⟩
    subst e1 e2
    -- the number
    refine raw_seq (fun O r => O = [] ∧ ∃ n : Int, 0 ≤ n ∧ n < 2147483647 ∧ r = [.d (.lst (ns.map D.int)), .d (.int b), .un, .d (.lst (cs.map D.int)), .d (.int n)]) R1 ?_ ?_
    · refine ds_asg ?_
      repeat walk_at "dw"
      exact ⟨rfl, _, by omega, by omega, rfl⟩
    intro O2 r2 σ2 H2 R2 s2 ⟨e1, n0, hn0, hn1, e2⟩
    subst e1 e2
    refine raw_seq (fun O r => O = [] ∧ ∃ (n : Int) (s : Sl), 0 ≤ n ∧ n < 2147483647 ∧ r = [.d (.lst (ns.map D.int)), .d (.int b), s, .d (.lst (cs.map D.int)), .d (.int n)]) R2 ?_ ?_
    · refine ds_for (js := [2]) (di_list ?_)
      walk_at "dw"
      refine ⟨_, rfl, fun i O r => O = [] ∧ ∃ (n : Int) (s : Sl), 0 ≤ n ∧ n < 2147483647 ∧ r = [.d (.lst (ns.map D.int)), .d (.int b), s, .d (.lst (cs.map D.int)), .d (.int n)], ⟨rfl, n0, .un, hn0, hn1, rfl⟩, fun i x O' r' hx ⟨e1, n, s, h0, h1, e2⟩ => ?_, fun O' r' h => h⟩
      subst e1 e2
      obtain ⟨c, rfl⟩ : ∃ n, x = D.int n := by
        obtain ⟨n, _, e⟩ := List.mem_map.mp (List.mem_of_getElem? hx)
        exact ⟨n, e.symm⟩
      refine dg_name (ds_asg ?_)
      repeat walk_at "dw"
      refine ⟨.inl ⟨by omega, by omega⟩, ?_⟩
      repeat walk_at "dw"
      refine ⟨by decide, ?_⟩
      repeat walk_at "dw"
      refine ⟨by decide, rfl, _, _, Int.emod_nonneg _ (by decide), Int.emod_lt_of_pos _ (by decide), rfl⟩
    intro O3 r3 σ3 H3 R3 s3 ⟨e1, n, s, h0, h1', e2⟩
    subst e1 e2
    -- the dict
    intro p hp
    have R4 := R3.own1 (o := .dK []) hp
    obtain ⟨u4, e4, p4⟩ := R4.slot 4 _ rfl
    have p4 : u4 = .int n := p4
    subst p4
    refine ⟨_, e4, ?_⟩
    have D1 := de_lcF (M := mdOf K pure0 () H (fun _ => False) (fun _ z => z.elim) (fun _ z => z.elim)) (O := [p]) (r := [.d (.lst (ns.map D.int)), .d (.int b), s, .d (.lst (cs.map D.int)), .d (.int n)])
      (wi := iList K (tVar 3)) (g := gName 2) (tt := tTest (tOp (rI0 fun i j => V.bl (decide (j ≤ i))) (tVar 2) (tOp (rI CPow fun i j => V.int (i ^ j.toNat)) (tC (V.int 10)) (tC (V.int 18))))) (te := tVar 2) (vs := [2]) (js := [2]) (k := fun x => ∃ l : List Int, x = .lst (l.map D.int) ∧ ∀ z ∈ l, 0 ≤ z)
      (fun x => match x with
        | .int i => decide ((10 : Int) ^ 18 ≤ i)
        | _ => false) (fun x => x) (fun _ h => h) (by
        refine di_list ?_
        walk_at "dw"
        refine ⟨_, rfl, Nat.lt_of_le_of_lt (by rw [List.length_map]; exact hcl) (by decide : (63 : Nat) < sizeLine), fun O' i x hx => ?_, ?_⟩
        · obtain ⟨c, rfl⟩ : ∃ n, x = D.int n := by
            obtain ⟨n, _, e⟩ := List.mem_map.mp (List.mem_of_getElem? hx)
            exact ⟨n, e.symm⟩
          refine dg_name (dt_test ?_)
          repeat walk_at "dw"
          refine ⟨⟨by decide, by decide, by decide⟩, ?_⟩
          repeat walk_at "dw"
          refine ⟨rfl, fun _ => ?_⟩
          repeat walk_at "dw"
          rfl
        · rw [List.map_id']
          obtain ⟨ms, e, hm⟩ := ints_of (ys := (cs.map D.int).filter fun x => match x with
            | .int i => decide ((10 : Int) ^ 18 ≤ i)
            | _ => false) (P := fun n => 0 ≤ n) fun i y e => by
              have h1 := (List.mem_filter.mp (List.mem_of_getElem? e)).1
              obtain ⟨c, hc1, e1⟩ := List.mem_map.mp h1
              exact ⟨c, e1.symm, hc c hc1⟩
          exact ⟨ms, by rw [e], hm⟩)
    dsimp only [tPairs, tC, tListRev, List.map]
    refine D1 σ3 _ _ R4 fun v H5 d R5 e5 p5 ⟨l, ed, hl⟩ => ?_
    subst ed
    obtain ⟨a5, vs, rfl, h1, h2⟩ := p5
    have ev := repL_ints h2
    subst ev
    refine ⟨a5, _, rfl, h1.sq, fun q5 hq5 => ?_⟩
    have hp5 : H5 p = some (.dK []) := e5 p _ (fun z => z) upd_same
    have npq : p ≠ q5 := ne_of_none hp5 hq5
    refine ⟨by rw [upd_ne npq]; exact hp5, dealKv n 0 q5, rfl, by show 3 ≤ 15; decide, ?_⟩
    have sm : Same H H3 := same_sm R3.sm
    have hpH : H p = none := sm.free hp
    have smH5 : Sm (fun _ => False) H H5 := R5.sm
    have hqH : H q5 = none := (same_sm smH5).free hq5
    refine q (p, q5) _ hpH hqH (fun x o hx => ?_) ⟨n, 0, l.reverse, upd_same, ?_, h0, h1', Int.le_refl 0, fun z hz => hl z (List.mem_reverse.mp hz)⟩
    · rw [upd_ne (ne_of_none hx hpH), upd_ne (ne_of_none hx hqH)]
      exact smH5 x o (fun z => z) hx
    · rw [upd_ne npq.symm, upd_same, List.map_reverse]
theorem ok_draw {f : Addr} {fd : FuncData} {k : Nat} (F : Fun K "_law_draw" "_law_draw" sDraw f fd) (mL : mg "len" = none) : FnOk P w K mg base CX0 (k + 1) f fd ["_law_deal_here", "_law_many"] (spDraw K) := by
  refine F.ok scDraw (fun vs H Q E h => ?_) (fun cdv A outer s H vs Q E hr h => ?_)
  · obtain ⟨g, ds, F1, p, _, _, _, ⟨n, rfl, _⟩, _⟩ := h
    rw [← p.length]
    rfl
  · obtain ⟨g, ds, F1, p, f0, tr, i, ⟨n, rfl, n0, n1⟩, q⟩ := h
    obtain ⟨v1, _, rfl, p1, v2, _, rfl, p2, e⟩ := p
    have p1 : v1 = .ref g.1 := p1
    have p2 : v2 = .int n := p2
    have e : _ = [] := e
    subst p1 p2 e
    have hu := hu_of hr
    obtain ⟨dd, ll⟩ := g
    have hne : ∀ (H : Hp) (s n : Int) (l : List Int), H dd = some (.dK (dealKv s n ll)) → H ll = some (.lst (l.map V.int)) → dd ≠ ll := fun H s n l a b => ne_of a b (by intro z; cases z)
    refine ⟨_, pss_cons (ps_while PassesOwn.never (PW.pt (pw_and (pt_cmpR op_eq (pe_dget hu (pv 0) pe_str (fun _ _ => rfl)) pe_int (nomark _))
          (pw_and1 (pt_cmpR op_gt (pe_callB call_len_seq (by rfl) mL PySem.boot_len (pa_cons (pe_dget hu (pv 0) pe_str (fun _ _ => rfl)) pa_nil)) pe_int (nomark _)))))
          (pss_one (ps_dput hu (pv 0) pe_str (pe_bm0 PySem.F.plainAttrs_list PySem.F.slot_list_pop PySem.F.type_list_pop mt_pop (pe_dget hu (pv 0) pe_str (fun _ _ => rfl))) rfl)))
      (pss_cons (ps_set (i := 2) scDraw.nd rfl (Or.inl rfl) (pe_dget hu (pv 0) pe_str (fun _ _ => rfl)))
      (pss_cons (ps_if (pt_cmpR op_gt (pv 2) pe_int (nomark _)) (pss_cons (ps_dput hu (pv 0) pe_str (pe_op op_fdiv (pv 2) (pv 1)) rfl) (pss_one (ps_ret (pe_op op_mod (pv 2) (pv 1))))) pss_nil)
      (pss_cons (ps_set (i := 3) scDraw.nd rfl (Or.inl rfl) (pe_op op_mod (pe_op op_add (pe_op op_mul (pe_dget hu (pv 0) pe_str (fun _ _ => rfl)) pe_int) pe_int) pe_int))
      (pss_cons (ps_dput hu (pv 0) pe_str (pe_op op_mod (pe_op op_add (pe_op op_mul (pv 3) pe_int) pe_int) pe_int) rfl)
      (pss_cons (ps_set (i := 4) scDraw.nd rfl (Or.inl rfl) (pe_op op_mod (pe_op op_mul (pe_dget hu (pv 0) pe_str (fun _ _ => rfl)) (pe_dget hu (pv 0) pe_str (fun _ _ => rfl))) pe_int))
      (pss_one (ps_ret (pe_op op_mod (pe_op op_add (pe_op op_mul (pe_op op_mod (pe_op op_mul (pv 3) (pv 3)) pe_int) pe_int) (pv 4)) (pv 1))))))))), ?_⟩
    -- what stands between the steps
    have start : ∃ (s m : Int) (l : List Int), H dd = some (.dK (dealKv s m ll)) ∧ H ll = some (.lst (l.map V.int)) ∧ 0 ≤ s ∧ s < 2147483647 ∧ 0 ≤ m ∧ ∀ x ∈ l, (0 : Int) ≤ x := i
    obtain ⟨s0, m0, l0, hd0, hl0, hs0, hs1, hm0, hz0⟩ := start
    have J : ∀ (H' : Hp) (s m : Int) (l : List Int) (x : Int), Sm (dealS.F0 (dd, ll)) H H' → H' dd = some (.dK (dealKv s m ll)) → H' ll = some (.lst (l.map V.int)) → 0 ≤ s → s < 2147483647 → 0 ≤ m → (∀ x ∈ l, (0 : Int) ≤ x) → 0 ≤ x → x < n → Q (.int x) H' :=
      fun H' s m l x sm a b c d e f g h => q (.int x) H' (.int x) sm ⟨s, m, l, a, b, c, d, e, f⟩ rfl ⟨n, x, rfl, rfl, g, h⟩
    have up : ∀ (H' : Hp) (o : HO), Sm (dealS.F0 (dd, ll)) H H' → Sm (dealS.F0 (dd, ll)) H (upd H' dd o) := fun H' o sm a u na e => by
      rw [upd_ne fun z => na (.inl z)]
      exact sm a u na e
    have upl : ∀ (H' : Hp) (o : HO), Sm (dealS.F0 (dd, ll)) H H' → Sm (dealS.F0 (dd, ll)) H (upd H' ll o) := fun H' o sm a u na e => by
      rw [upd_ne fun z => na (.inr z)]
      exact sm a u na e
    -- the while
    refine ⟨fun mm σ H' => σ = [some (.ref dd), some (.int n), none, none, none] ∧ ∃ (s m : Int) (l : List Int), mm = l.length ∧ Sm (dealS.F0 (dd, ll)) H H' ∧ H' dd = some (.dK (dealKv s m ll)) ∧ H' ll = some (.lst (l.map V.int)) ∧ 0 ≤ s ∧ s < 2147483647 ∧ 0 ≤ m ∧ ∀ x ∈ l, (0 : Int) ≤ x,
      ⟨l0.length, rfl, s0, m0, l0, rfl, .refl, hd0, hl0, hs0, hs1, hm0, hz0⟩, ?_⟩
    rintro mm σ H' ⟨rfl, s1, m1, l1, rfl, sm, hd, hl, b0, b1, c0, z0⟩
    by_cases hT : m1 = 0 ∧ l1 ≠ []
    · obtain ⟨rfl, hn⟩ := hT
      have hlen : 0 < l1.length := List.length_pos_iff.mpr hn
      refine ⟨_, rfl, dd, _, rfl, DGet.k (k := Sum.inr "number") hd, rfl, _, rfl, ite2 (fun _ => ?_) (fun e => absurd (decide_eq_true rfl) e)⟩
      refine ⟨_, rfl, dd, _, rfl, DGet.k (k := Sum.inr "left") hd, ll, _, rfl, .inl (SqL.of hl), _, _, rfl, rfl, _, rfl, ?_⟩
      refine ite2 (fun _ => ?_) (fun e => absurd (decide_eq_true (by rw [List.length_map]; omega)) e)
      refine ⟨_, fun σ2 H2 h => h, ?_⟩
      obtain ⟨lr, lz, rfl⟩ : ∃ lr lz, l1 = lr ++ [lz] := ⟨l1.dropLast, l1.getLast hn, (List.dropLast_concat_getLast hn).symm⟩
      have hne' := hne H' s1 0 _ hd hl
      refine ⟨_, rfl, dd, _, rfl, DGet.k (k := Sum.inr "left") hd, .inl ⟨rfl, _, SqL.of hl⟩, ll, _, .int lz, rfl, rfl, hl, by simp, ?_⟩
      have hd2 : (upd H' ll (.lst ((lr ++ [lz]).map V.int).dropLast)) dd = some (.dK (dealKv s1 0 ll)) := by
        rw [upd_ne hne']
        exact hd
      refine ⟨_, rfl, dd, _, rfl, DPut.k (k := Sum.inr "number") hd2 (by show 3 < sizeLine; decide), ?_⟩
      refine ⟨lr.length, by simp, rfl, s1, lz, lr, rfl, up _ _ (upl _ _ sm), by rw [upd_same]; rfl, ?_, b0, b1, z0 lz (by simp), fun x hx => z0 x (by simp [hx])⟩
      rw [upd_ne hne'.symm, upd_same]
      simp
    · have stop : ∀ {R : Bool → Hp → Prop}, R false H' → (tAnd (tTest (tOp rEq (tDGet (tVar 0) (tC (.str "number"))) (tC (.int 0)))) (tTest (tOp (rI0 fun i j => V.bl (decide (j < i))) (tCB (fun xs H Q => ∃ p ys, xs = [.ref p] ∧ (SqL K H p ys ∨ SqT K H p ys) ∧ Q (.int ys.length) H) (tCons (tDGet (tVar 0) (tC (.str "left"))) tNil)) (tC (.int 0)))))
          [some (.ref dd), some (.int n), none, none, none] H' R := fun {R} hR => by
        refine ⟨_, rfl, dd, _, rfl, DGet.k (k := Sum.inr "number") hd, rfl, _, rfl, ite2 (fun e => ?_) (fun e => hR)⟩
        have e0 : m1 = 0 := V.int.inj (of_decide_eq_true e)
        have e1 : l1 = [] := Classical.byContradiction fun z => hT ⟨e0, z⟩
        refine ⟨_, rfl, dd, _, rfl, DGet.k (k := Sum.inr "left") hd, ll, _, rfl, .inl (SqL.of hl), _, _, rfl, rfl, _, rfl, ?_⟩
        subst e1
        exact hR
      refine stop (iteF ?_)
      -- number
      refine ⟨_, rfl, dd, _, rfl, DGet.k (k := Sum.inr "number") hd, ?_⟩
      refine ⟨_, rfl, _, _, rfl, rfl, _, rfl, ite2 (fun e => ?_) (fun e => ?_)⟩
      · have e0 : 0 < m1 := of_decide_eq_true e
        refine ⟨_, rfl, _, rfl, _, _, rfl, rfl, ⟨n0, n1⟩, _, rfl, dd, _, rfl, DPut.k (k := Sum.inr "number") hd (by show 3 < sizeLine; decide), ?_⟩
        refine ⟨_, rfl, _, rfl, _, _, rfl, rfl, n0, ?_⟩
        have hne' := hne H' s1 m1 _ hd hl
        refine J _ s1 (m1 / n) l1 _ (up _ _ sm) (by rw [upd_same]; rfl) (by rw [upd_ne hne'.symm]; exact hl) b0 b1 (Int.ediv_nonneg c0 (by omega)) z0 (Int.emod_nonneg _ (by omega)) (Int.emod_lt_of_pos _ n0)
      · -- one
        refine ⟨_, rfl, dd, _, rfl, DGet.k (k := Sum.inr "seed") hd, s1, 48271, rfl, rfl, .inl ⟨by omega, by omega⟩, _, _, rfl, rfl, _, _, rfl, rfl, (by show (0 : Int) < 2147483647; decide), ?_⟩
        dsimp only
        generalize ho : (s1 * 48271 + 7919) % 2147483647 = one
        have o0 : 0 ≤ one := by rw [← ho]; exact Int.emod_nonneg _ (by decide)
        have o1 : one < 2147483647 := by rw [← ho]; exact Int.emod_lt_of_pos _ (by decide)
        refine ⟨_, rfl, _, _, rfl, rfl, .inl ⟨by omega, by omega⟩, _, _, rfl, rfl, _, _, rfl, rfl, (by show (0 : Int) < 2147483399; decide), _, rfl, dd, _, rfl, DPut.k (k := Sum.inr "seed") hd (by show 3 < sizeLine; decide), ?_⟩
        dsimp only
        generalize hs : (one * 40692 + 104729) % 2147483399 = seed
        have q0 : 0 ≤ seed := by rw [← hs]; exact Int.emod_nonneg _ (by decide)
        have q1 : seed < 2147483399 := by rw [← hs]; exact Int.emod_lt_of_pos _ (by decide)
        have hne' := hne H' s1 m1 _ hd hl
        have hd2 : (upd H' dd (.dK (putK (dealKv s1 m1 ll) (.inr "seed") (.int seed)))) dd = some (.dK (dealKv seed m1 ll)) := by
          rw [upd_same]
          rfl
        refine ⟨_, rfl, dd, _, rfl, DGet.k (k := Sum.inr "seed") hd2, _, rfl, dd, _, rfl, DGet.k (k := Sum.inr "seed") hd2, _, _, rfl, rfl, .inl ⟨by omega, by omega⟩, _, _, rfl, rfl, (by show (0 : Int) < 2147483563; decide), ?_⟩
        refine ⟨_, rfl, _, rfl, _, _, rfl, rfl, .inl ⟨by omega, by omega⟩, _, _, rfl, rfl, (by show (0 : Int) < 2147483629; decide), _, _, rfl, rfl, .inr ⟨by decide, by decide⟩, _, rfl, _, _, rfl, rfl, _, rfl, _, _, rfl, rfl, n0, ?_⟩
        exact J _ seed m1 l1 _ (up _ _ sm) hd2 (by rw [upd_ne hne'.symm]; exact hl) q0 (by omega) c0 z0 (Int.emod_nonneg _ (by omega)) (Int.emod_lt_of_pos _ n0)
end
end Dw

namespace Dw
open PySem PySem.Spec PyProof.Rows L2
theorem all_mk {P : Program} {w : World} {K : PySem.W.Frag} {h : Heap} {mg : Str → Option Value} {fa f_names_in f_mask_of f_names_of f_in_order f_least_masks f_least_sets f_holds f_show_set f_show_rule f__law_deal f__law_draw f__law_mixed f__law_some f__law_any_word f__law_words f__law_holds f__law_within f__law_least f__law_drawn_sets f__law_truth f_law f_Rule___init__ f_Rule_of_sets f_Rule___call__ f_Rule___bool__ f_Rule___repr__ : Addr} (X : K.In h) (G : h.Ns mainGlobals mg) (hfa : mg "law" = some (.ref fa))
    {C_Rule pc_Rule_of_sets : Addr}
    {re_Rule_of_sets : List Value}
    {od_names_in an_names_in od_mask_of an_mask_of od_names_of an_names_of od_in_order an_in_order od_least_masks an_least_masks od_least_sets an_least_sets od_holds an_holds od_show_set an_show_set od_show_rule an_show_rule od__law_deal an__law_deal od__law_draw an__law_draw od__law_mixed an__law_mixed od__law_some an__law_some od__law_any_word an__law_any_word od__law_words an__law_words od__law_holds an__law_holds od__law_within an__law_within od__law_least an__law_least od__law_drawn_sets an__law_drawn_sets od__law_truth an__law_truth od_law an_law od_Rule___init__ an_Rule___init__ od_Rule_of_sets an_Rule_of_sets od_Rule___call__ an_Rule___call__ od_Rule___bool__ an_Rule___bool__ od_Rule___repr__ an_Rule___repr__ : Option Addr} {sl_names_in sl_mask_of sl_names_of sl_in_order sl_least_masks sl_least_sets sl_holds sl_show_set sl_show_rule sl__law_deal sl__law_draw sl__law_mixed sl__law_some sl__law_any_word sl__law_words sl__law_holds sl__law_within sl__law_least sl__law_drawn_sets sl__law_truth sl_law sl_Rule___init__ sl_Rule_of_sets sl_Rule___call__ sl_Rule___bool__ sl_Rule___repr__ : Array (Option Value)} {oc_names_in kV_names_in dc_names_in pm_names_in cd_names_in ct_names_in oc_mask_of kV_mask_of dc_mask_of pm_mask_of cd_mask_of ct_mask_of oc_names_of kV_names_of dc_names_of pm_names_of cd_names_of ct_names_of oc_in_order kV_in_order dc_in_order pm_in_order cd_in_order ct_in_order oc_least_masks kV_least_masks dc_least_masks pm_least_masks cd_least_masks ct_least_masks oc_least_sets kV_least_sets dc_least_sets pm_least_sets cd_least_sets ct_least_sets oc_holds kV_holds dc_holds pm_holds cd_holds ct_holds oc_show_set kV_show_set dc_show_set pm_show_set cd_show_set ct_show_set oc_show_rule kV_show_rule dc_show_rule pm_show_rule cd_show_rule ct_show_rule oc__law_deal kV__law_deal dc__law_deal pm__law_deal cd__law_deal ct__law_deal oc__law_draw kV__law_draw dc__law_draw pm__law_draw cd__law_draw ct__law_draw oc__law_mixed kV__law_mixed dc__law_mixed pm__law_mixed cd__law_mixed ct__law_mixed oc__law_some kV__law_some dc__law_some pm__law_some cd__law_some ct__law_some oc__law_any_word kV__law_any_word dc__law_any_word pm__law_any_word cd__law_any_word ct__law_any_word oc__law_words kV__law_words dc__law_words pm__law_words cd__law_words ct__law_words oc__law_holds kV__law_holds dc__law_holds pm__law_holds cd__law_holds ct__law_holds oc__law_within kV__law_within dc__law_within pm__law_within cd__law_within ct__law_within oc__law_least kV__law_least dc__law_least pm__law_least cd__law_least ct__law_least oc__law_drawn_sets kV__law_drawn_sets dc__law_drawn_sets pm__law_drawn_sets cd__law_drawn_sets ct__law_drawn_sets oc__law_truth kV__law_truth dc__law_truth pm__law_truth cd__law_truth ct__law_truth oc_law kV_law dc_law pm_law cd_law ct_law oc_Rule___init__ kV_Rule___init__ dc_Rule___init__ pm_Rule___init__ cd_Rule___init__ ct_Rule___init__ oc_Rule_of_sets kV_Rule_of_sets dc_Rule_of_sets pm_Rule_of_sets cd_Rule_of_sets ct_Rule_of_sets oc_Rule___call__ kV_Rule___call__ dc_Rule___call__ pm_Rule___call__ cd_Rule___call__ ct_Rule___call__ oc_Rule___bool__ kV_Rule___bool__ dc_Rule___bool__ pm_Rule___bool__ cd_Rule___bool__ ct_Rule___bool__ oc_Rule___repr__ kV_Rule___repr__ dc_Rule___repr__ pm_Rule___repr__ cd_Rule___repr__ ct_Rule___repr__ : Value}
    (aC_Rule : PySem.W.nsIn K mainGlobals "Rule" = some (some (.ref C_Rule)))
    (a_names_in : PySem.W.nsIn K mainGlobals "names_in" = some (some (.ref f_names_in)))
    (l_names_in : K.lookup f_names_in = some ⟨oc_names_in, od_names_in, .func (PySem.W.fnOf "names_in" "names_in" (defArgs s_names_in) (defBody s_names_in) (defScope s_names_in) .none kV_names_in dc_names_in pm_names_in an_names_in cd_names_in ct_names_in), sl_names_in⟩)
    (d_names_in : PySem.W.codeIn K cd_names_in "names_in" = true)
    (k_names_in : PySem.W.keepIn K (.ref f_names_in) = true)
    (a_mask_of : PySem.W.nsIn K mainGlobals "mask_of" = some (some (.ref f_mask_of)))
    (l_mask_of : K.lookup f_mask_of = some ⟨oc_mask_of, od_mask_of, .func (PySem.W.fnOf "mask_of" "mask_of" (defArgs s_mask_of) (defBody s_mask_of) (defScope s_mask_of) .none kV_mask_of dc_mask_of pm_mask_of an_mask_of cd_mask_of ct_mask_of), sl_mask_of⟩)
    (d_mask_of : PySem.W.codeIn K cd_mask_of "mask_of" = true)
    (k_mask_of : PySem.W.keepIn K (.ref f_mask_of) = true)
    (a_names_of : PySem.W.nsIn K mainGlobals "names_of" = some (some (.ref f_names_of)))
    (l_names_of : K.lookup f_names_of = some ⟨oc_names_of, od_names_of, .func (PySem.W.fnOf "names_of" "names_of" (defArgs s_names_of) (defBody s_names_of) (defScope s_names_of) .none kV_names_of dc_names_of pm_names_of an_names_of cd_names_of ct_names_of), sl_names_of⟩)
    (d_names_of : PySem.W.codeIn K cd_names_of "names_of" = true)
    (k_names_of : PySem.W.keepIn K (.ref f_names_of) = true)
    (a_in_order : PySem.W.nsIn K mainGlobals "in_order" = some (some (.ref f_in_order)))
    (l_in_order : K.lookup f_in_order = some ⟨oc_in_order, od_in_order, .func (PySem.W.fnOf "in_order" "in_order" (defArgs s_in_order) (defBody s_in_order) (defScope s_in_order) .none kV_in_order dc_in_order pm_in_order an_in_order cd_in_order ct_in_order), sl_in_order⟩)
    (d_in_order : PySem.W.codeIn K cd_in_order "in_order" = true)
    (k_in_order : PySem.W.keepIn K (.ref f_in_order) = true)
    (a_least_masks : PySem.W.nsIn K mainGlobals "least_masks" = some (some (.ref f_least_masks)))
    (l_least_masks : K.lookup f_least_masks = some ⟨oc_least_masks, od_least_masks, .func (PySem.W.fnOf "least_masks" "least_masks" (defArgs s_least_masks) (defBody s_least_masks) (defScope s_least_masks) .none kV_least_masks dc_least_masks pm_least_masks an_least_masks cd_least_masks ct_least_masks), sl_least_masks⟩)
    (d_least_masks : PySem.W.codeIn K cd_least_masks "least_masks" = true)
    (k_least_masks : PySem.W.keepIn K (.ref f_least_masks) = true)
    (a_least_sets : PySem.W.nsIn K mainGlobals "least_sets" = some (some (.ref f_least_sets)))
    (l_least_sets : K.lookup f_least_sets = some ⟨oc_least_sets, od_least_sets, .func (PySem.W.fnOf "least_sets" "least_sets" (defArgs s_least_sets) (defBody s_least_sets) (defScope s_least_sets) .none kV_least_sets dc_least_sets pm_least_sets an_least_sets cd_least_sets ct_least_sets), sl_least_sets⟩)
    (d_least_sets : PySem.W.codeIn K cd_least_sets "least_sets" = true)
    (k_least_sets : PySem.W.keepIn K (.ref f_least_sets) = true)
    (a_holds : PySem.W.nsIn K mainGlobals "holds" = some (some (.ref f_holds)))
    (l_holds : K.lookup f_holds = some ⟨oc_holds, od_holds, .func (PySem.W.fnOf "holds" "holds" (defArgs s_holds) (defBody s_holds) (defScope s_holds) .none kV_holds dc_holds pm_holds an_holds cd_holds ct_holds), sl_holds⟩)
    (d_holds : PySem.W.codeIn K cd_holds "holds" = true)
    (k_holds : PySem.W.keepIn K (.ref f_holds) = true)
    (a_show_set : PySem.W.nsIn K mainGlobals "show_set" = some (some (.ref f_show_set)))
    (l_show_set : K.lookup f_show_set = some ⟨oc_show_set, od_show_set, .func (PySem.W.fnOf "show_set" "show_set" (defArgs s_show_set) (defBody s_show_set) (defScope s_show_set) .none kV_show_set dc_show_set pm_show_set an_show_set cd_show_set ct_show_set), sl_show_set⟩)
    (d_show_set : PySem.W.codeIn K cd_show_set "show_set" = true)
    (k_show_set : PySem.W.keepIn K (.ref f_show_set) = true)
    (a_show_rule : PySem.W.nsIn K mainGlobals "show_rule" = some (some (.ref f_show_rule)))
    (l_show_rule : K.lookup f_show_rule = some ⟨oc_show_rule, od_show_rule, .func (PySem.W.fnOf "show_rule" "show_rule" (defArgs s_show_rule) (defBody s_show_rule) (defScope s_show_rule) .none kV_show_rule dc_show_rule pm_show_rule an_show_rule cd_show_rule ct_show_rule), sl_show_rule⟩)
    (d_show_rule : PySem.W.codeIn K cd_show_rule "show_rule" = true)
    (k_show_rule : PySem.W.keepIn K (.ref f_show_rule) = true)
    (a__law_deal : PySem.W.nsIn K mainGlobals "_law_deal" = some (some (.ref f__law_deal)))
    (l__law_deal : K.lookup f__law_deal = some ⟨oc__law_deal, od__law_deal, .func (PySem.W.fnOf "_law_deal" "_law_deal" (defArgs s__law_deal) (defBody s__law_deal) (defScope s__law_deal) .none kV__law_deal dc__law_deal pm__law_deal an__law_deal cd__law_deal ct__law_deal), sl__law_deal⟩)
    (d__law_deal : PySem.W.codeIn K cd__law_deal "_law_deal" = true)
    (k__law_deal : PySem.W.keepIn K (.ref f__law_deal) = true)
    (a__law_draw : PySem.W.nsIn K mainGlobals "_law_draw" = some (some (.ref f__law_draw)))
    (l__law_draw : K.lookup f__law_draw = some ⟨oc__law_draw, od__law_draw, .func (PySem.W.fnOf "_law_draw" "_law_draw" (defArgs s__law_draw) (defBody s__law_draw) (defScope s__law_draw) .none kV__law_draw dc__law_draw pm__law_draw an__law_draw cd__law_draw ct__law_draw), sl__law_draw⟩)
    (d__law_draw : PySem.W.codeIn K cd__law_draw "_law_draw" = true)
    (k__law_draw : PySem.W.keepIn K (.ref f__law_draw) = true)
    (a__law_mixed : PySem.W.nsIn K mainGlobals "_law_mixed" = some (some (.ref f__law_mixed)))
    (l__law_mixed : K.lookup f__law_mixed = some ⟨oc__law_mixed, od__law_mixed, .func (PySem.W.fnOf "_law_mixed" "_law_mixed" (defArgs s__law_mixed) (defBody s__law_mixed) (defScope s__law_mixed) .none kV__law_mixed dc__law_mixed pm__law_mixed an__law_mixed cd__law_mixed ct__law_mixed), sl__law_mixed⟩)
    (d__law_mixed : PySem.W.codeIn K cd__law_mixed "_law_mixed" = true)
    (k__law_mixed : PySem.W.keepIn K (.ref f__law_mixed) = true)
    (a__law_some : PySem.W.nsIn K mainGlobals "_law_some" = some (some (.ref f__law_some)))
    (l__law_some : K.lookup f__law_some = some ⟨oc__law_some, od__law_some, .func (PySem.W.fnOf "_law_some" "_law_some" (defArgs s__law_some) (defBody s__law_some) (defScope s__law_some) .none kV__law_some dc__law_some pm__law_some an__law_some cd__law_some ct__law_some), sl__law_some⟩)
    (d__law_some : PySem.W.codeIn K cd__law_some "_law_some" = true)
    (k__law_some : PySem.W.keepIn K (.ref f__law_some) = true)
    (a__law_any_word : PySem.W.nsIn K mainGlobals "_law_any_word" = some (some (.ref f__law_any_word)))
    (l__law_any_word : K.lookup f__law_any_word = some ⟨oc__law_any_word, od__law_any_word, .func (PySem.W.fnOf "_law_any_word" "_law_any_word" (defArgs s__law_any_word) (defBody s__law_any_word) (defScope s__law_any_word) .none kV__law_any_word dc__law_any_word pm__law_any_word an__law_any_word cd__law_any_word ct__law_any_word), sl__law_any_word⟩)
    (d__law_any_word : PySem.W.codeIn K cd__law_any_word "_law_any_word" = true)
    (k__law_any_word : PySem.W.keepIn K (.ref f__law_any_word) = true)
    (a__law_words : PySem.W.nsIn K mainGlobals "_law_words" = some (some (.ref f__law_words)))
    (l__law_words : K.lookup f__law_words = some ⟨oc__law_words, od__law_words, .func (PySem.W.fnOf "_law_words" "_law_words" (defArgs s__law_words) (defBody s__law_words) (defScope s__law_words) .none kV__law_words dc__law_words pm__law_words an__law_words cd__law_words ct__law_words), sl__law_words⟩)
    (d__law_words : PySem.W.codeIn K cd__law_words "_law_words" = true)
    (k__law_words : PySem.W.keepIn K (.ref f__law_words) = true)
    (a__law_holds : PySem.W.nsIn K mainGlobals "_law_holds" = some (some (.ref f__law_holds)))
    (l__law_holds : K.lookup f__law_holds = some ⟨oc__law_holds, od__law_holds, .func (PySem.W.fnOf "_law_holds" "_law_holds" (defArgs s__law_holds) (defBody s__law_holds) (defScope s__law_holds) .none kV__law_holds dc__law_holds pm__law_holds an__law_holds cd__law_holds ct__law_holds), sl__law_holds⟩)
    (d__law_holds : PySem.W.codeIn K cd__law_holds "_law_holds" = true)
    (k__law_holds : PySem.W.keepIn K (.ref f__law_holds) = true)
    (a__law_within : PySem.W.nsIn K mainGlobals "_law_within" = some (some (.ref f__law_within)))
    (l__law_within : K.lookup f__law_within = some ⟨oc__law_within, od__law_within, .func (PySem.W.fnOf "_law_within" "_law_within" (defArgs s__law_within) (defBody s__law_within) (defScope s__law_within) .none kV__law_within dc__law_within pm__law_within an__law_within cd__law_within ct__law_within), sl__law_within⟩)
    (d__law_within : PySem.W.codeIn K cd__law_within "_law_within" = true)
    (k__law_within : PySem.W.keepIn K (.ref f__law_within) = true)
    (a__law_least : PySem.W.nsIn K mainGlobals "_law_least" = some (some (.ref f__law_least)))
    (l__law_least : K.lookup f__law_least = some ⟨oc__law_least, od__law_least, .func (PySem.W.fnOf "_law_least" "_law_least" (defArgs s__law_least) (defBody s__law_least) (defScope s__law_least) .none kV__law_least dc__law_least pm__law_least an__law_least cd__law_least ct__law_least), sl__law_least⟩)
    (d__law_least : PySem.W.codeIn K cd__law_least "_law_least" = true)
    (k__law_least : PySem.W.keepIn K (.ref f__law_least) = true)
    (a__law_drawn_sets : PySem.W.nsIn K mainGlobals "_law_drawn_sets" = some (some (.ref f__law_drawn_sets)))
    (l__law_drawn_sets : K.lookup f__law_drawn_sets = some ⟨oc__law_drawn_sets, od__law_drawn_sets, .func (PySem.W.fnOf "_law_drawn_sets" "_law_drawn_sets" (defArgs s__law_drawn_sets) (defBody s__law_drawn_sets) (defScope s__law_drawn_sets) .none kV__law_drawn_sets dc__law_drawn_sets pm__law_drawn_sets an__law_drawn_sets cd__law_drawn_sets ct__law_drawn_sets), sl__law_drawn_sets⟩)
    (d__law_drawn_sets : PySem.W.codeIn K cd__law_drawn_sets "_law_drawn_sets" = true)
    (k__law_drawn_sets : PySem.W.keepIn K (.ref f__law_drawn_sets) = true)
    (a__law_truth : PySem.W.nsIn K mainGlobals "_law_truth" = some (some (.ref f__law_truth)))
    (l__law_truth : K.lookup f__law_truth = some ⟨oc__law_truth, od__law_truth, .func (PySem.W.fnOf "_law_truth" "_law_truth" (defArgs s__law_truth) (defBody s__law_truth) (defScope s__law_truth) .none kV__law_truth dc__law_truth pm__law_truth an__law_truth cd__law_truth ct__law_truth), sl__law_truth⟩)
    (d__law_truth : PySem.W.codeIn K cd__law_truth "_law_truth" = true)
    (k__law_truth : PySem.W.keepIn K (.ref f__law_truth) = true)
    (a_law : PySem.W.nsIn K mainGlobals "law" = some (some (.ref f_law)))
    (l_law : K.lookup f_law = some ⟨oc_law, od_law, .func (PySem.W.fnOf "law" "law" (defArgs s_law) (defBody s_law) (defScope s_law) .none kV_law dc_law pm_law an_law cd_law ct_law), sl_law⟩)
    (d_law : PySem.W.codeIn K cd_law "law" = true)
    (k_law : PySem.W.keepIn K (.ref f_law) = true)
    (a_Rule___init__ : PySem.W.findIn K (.ref C_Rule) "__init__" = some (some (.ref f_Rule___init__)))
    (fn_Rule___init__ : PySem.W.isFn K (.ref f_Rule___init__) = true)
    (fi_Rule___init__ : PySem.W.fnIn K f_Rule___init__ = true)
    (l_Rule___init__ : K.lookup f_Rule___init__ = some ⟨oc_Rule___init__, od_Rule___init__, .func (PySem.W.fnOf "__init__" "Rule.__init__" (defArgs s_Rule___init__) (defBody s_Rule___init__) (defScope s_Rule___init__) .none kV_Rule___init__ dc_Rule___init__ pm_Rule___init__ an_Rule___init__ cd_Rule___init__ ct_Rule___init__), sl_Rule___init__⟩)
    (d_Rule___init__ : PySem.W.codeIn K cd_Rule___init__ "Rule.__init__" = true)
    (k_Rule___init__ : PySem.W.keepIn K (.ref f_Rule___init__) = true)
    (a_Rule_of_sets : PySem.W.findCls K (.ref C_Rule) (.type "type") "of_sets" = some (.get (.builtin "classmethod.__get__") (.ref pc_Rule_of_sets) .none (.ref C_Rule)))
    (rc_Rule_of_sets : PySem.W.recIn K pc_Rule_of_sets "classmethod" = some (.ref f_Rule_of_sets :: re_Rule_of_sets))
    (fi_Rule_of_sets : PySem.W.fnIn K f_Rule_of_sets = true)
    (l_Rule_of_sets : K.lookup f_Rule_of_sets = some ⟨oc_Rule_of_sets, od_Rule_of_sets, .func (PySem.W.fnOf "of_sets" "Rule.of_sets" (defArgs s_Rule_of_sets) (defBody s_Rule_of_sets) (defScope s_Rule_of_sets) .none kV_Rule_of_sets dc_Rule_of_sets pm_Rule_of_sets an_Rule_of_sets cd_Rule_of_sets ct_Rule_of_sets), sl_Rule_of_sets⟩)
    (d_Rule_of_sets : PySem.W.codeIn K cd_Rule_of_sets "Rule.of_sets" = true)
    (k_Rule_of_sets : PySem.W.keepIn K (.ref f_Rule_of_sets) = true)
    (a_Rule___call__ : PySem.W.findIn K (.ref C_Rule) "__call__" = some (some (.ref f_Rule___call__)))
    (fn_Rule___call__ : PySem.W.isFn K (.ref f_Rule___call__) = true)
    (fi_Rule___call__ : PySem.W.fnIn K f_Rule___call__ = true)
    (l_Rule___call__ : K.lookup f_Rule___call__ = some ⟨oc_Rule___call__, od_Rule___call__, .func (PySem.W.fnOf "__call__" "Rule.__call__" (defArgs s_Rule___call__) (defBody s_Rule___call__) (defScope s_Rule___call__) .none kV_Rule___call__ dc_Rule___call__ pm_Rule___call__ an_Rule___call__ cd_Rule___call__ ct_Rule___call__), sl_Rule___call__⟩)
    (d_Rule___call__ : PySem.W.codeIn K cd_Rule___call__ "Rule.__call__" = true)
    (k_Rule___call__ : PySem.W.keepIn K (.ref f_Rule___call__) = true)
    (a_Rule___bool__ : PySem.W.findIn K (.ref C_Rule) "__bool__" = some (some (.ref f_Rule___bool__)))
    (fn_Rule___bool__ : PySem.W.isFn K (.ref f_Rule___bool__) = true)
    (fi_Rule___bool__ : PySem.W.fnIn K f_Rule___bool__ = true)
    (l_Rule___bool__ : K.lookup f_Rule___bool__ = some ⟨oc_Rule___bool__, od_Rule___bool__, .func (PySem.W.fnOf "__bool__" "Rule.__bool__" (defArgs s_Rule___bool__) (defBody s_Rule___bool__) (defScope s_Rule___bool__) .none kV_Rule___bool__ dc_Rule___bool__ pm_Rule___bool__ an_Rule___bool__ cd_Rule___bool__ ct_Rule___bool__), sl_Rule___bool__⟩)
    (d_Rule___bool__ : PySem.W.codeIn K cd_Rule___bool__ "Rule.__bool__" = true)
    (k_Rule___bool__ : PySem.W.keepIn K (.ref f_Rule___bool__) = true)
    (a_Rule___repr__ : PySem.W.findIn K (.ref C_Rule) "__repr__" = some (some (.ref f_Rule___repr__)))
    (fn_Rule___repr__ : PySem.W.isFn K (.ref f_Rule___repr__) = true)
    (fi_Rule___repr__ : PySem.W.fnIn K f_Rule___repr__ = true)
    (l_Rule___repr__ : K.lookup f_Rule___repr__ = some ⟨oc_Rule___repr__, od_Rule___repr__, .func (PySem.W.fnOf "__repr__" "Rule.__repr__" (defArgs s_Rule___repr__) (defBody s_Rule___repr__) (defScope s_Rule___repr__) .none kV_Rule___repr__ dc_Rule___repr__ pm_Rule___repr__ an_Rule___repr__ cd_Rule___repr__ ct_Rule___repr__), sl_Rule___repr__⟩)
    (d_Rule___repr__ : PySem.W.codeIn K cd_Rule___repr__ "Rule.__repr__" = true)
    (k_Rule___repr__ : PySem.W.keepIn K (.ref f_Rule___repr__) = true)
    (pg_Rule : PySem.W.plainGet K C_Rule Str.empty = true)
    (hd_Rule : PySem.W.hasDictIn K C_Rule = true)
    (po_Rule : PySem.W.plainOver K C_Rule = true)
    (sa_Rule : PySem.W.findIn K (.ref C_Rule) "__setattr__" = some (some (.builtin "object.__setattr__")))
    (mk_Rule : PySem.W.makesIn K C_Rule = true)
    (kc_Rule : PySem.W.keepIn K (.ref C_Rule) = true)
    (rd_Rule : PySem.W.readsIn K C_Rule (.type "type") = true)
    (ga_Rule : PySem.W.specialIn K (.ref C_Rule) "__getattribute__" = some (some (.builtin "type.__getattribute__")))
    (ca_Rule : PySem.W.findIn K (.ref C_Rule) "__class__" = some (some (.builtin "object.__class__")))
    (mo_Rule : PySem.W.mroIn K C_Rule (.type "object") = some true)
    (cg : PySem.W.specialIn K (.builtin "object.__class__") "__get__" = some (some (.builtin "getset_descriptor.__get__")))
    (ct : PySem.W.takesIn K (.builtin "object.__class__") = some true)
    (na_Rule_least : PySem.W.findIn K (.ref C_Rule) "least" = some none)
    (na_Rule_names : PySem.W.findIn K (.ref C_Rule) "names" = some none)
    (kt_list : PySem.W.kitOne K (.type "tuple") (.type "list") = some false)
    (z_all : PySem.W.nsIn K mainGlobals "all" = some none)
    (z_any : PySem.W.nsIn K mainGlobals "any" = some none)
    (z_bool : PySem.W.nsIn K mainGlobals "bool" = some none)
    (z_enumerate : PySem.W.nsIn K mainGlobals "enumerate" = some none)
    (z_int : PySem.W.nsIn K mainGlobals "int" = some none)
    (z_isinstance : PySem.W.nsIn K mainGlobals "isinstance" = some none)
    (z_len : PySem.W.nsIn K mainGlobals "len" = some none)
    (z_list : PySem.W.nsIn K mainGlobals "list" = some none)
    (z_max : PySem.W.nsIn K mainGlobals "max" = some none)
    (z_range : PySem.W.nsIn K mainGlobals "range" = some none)
    (z_repr : PySem.W.nsIn K mainGlobals "repr" = some none)
    (z_reversed : PySem.W.nsIn K mainGlobals "reversed" = some none)
    (z_set : PySem.W.nsIn K mainGlobals "set" = some none)
    (z_sorted : PySem.W.nsIn K mainGlobals "sorted" = some none)
    (z_sum : PySem.W.nsIn K mainGlobals "sum" = some none)
    (z_tuple : PySem.W.nsIn K mainGlobals "tuple" = some none)
    :
    ∃ fd : FuncData, (∀ (s : Shared) (v : Value), BindsTo s fd ⟨[v], []⟩ [("_law_script", v)]) ∧ ∀ base : Heap, K.In base → base.Ns mainGlobals mg → FnG P w K mg base 5 fa fd ["_law_script"] (spLaw K) := by
  have e := hfa.symm.trans (PySem.W.mg_of X G a_law)
  cases e
  have F_names_in := fun_mk (st := s_names_in) l_names_in d_names_in k_names_in
  have b_names_in := F_names_in.binds (ps := ["sets"]) fun _ _ _ _ _ _ us hl => match us, hl with | [_], _ => rfl
  have F_mask_of := fun_mk (st := s_mask_of) l_mask_of d_mask_of k_mask_of
  have b_mask_of := F_mask_of.binds (ps := ["one", "names"]) fun _ _ _ _ _ _ us hl => match us, hl with | [_, _], _ => rfl
  have F_names_of := fun_mk (st := s_names_of) l_names_of d_names_of k_names_of
  have b_names_of := F_names_of.binds (ps := ["mask", "names"]) fun _ _ _ _ _ _ us hl => match us, hl with | [_, _], _ => rfl
  have F_in_order := fun_mk (st := s_in_order) l_in_order d_in_order k_in_order
  have b_in_order := F_in_order.binds (ps := ["masks", "names"]) fun _ _ _ _ _ _ us hl => match us, hl with | [_, _], _ => rfl
  have F_least_masks := fun_mk (st := s_least_masks) l_least_masks d_least_masks k_least_masks
  have b_least_masks := F_least_masks.binds (ps := ["masks"]) fun _ _ _ _ _ _ us hl => match us, hl with | [_], _ => rfl
  have F_least_sets := fun_mk (st := s_least_sets) l_least_sets d_least_sets k_least_sets
  have b_least_sets := F_least_sets.binds (ps := ["sets"]) fun _ _ _ _ _ _ us hl => match us, hl with | [_], _ => rfl
  have F_holds := fun_mk (st := s_holds) l_holds d_holds k_holds
  have b_holds := F_holds.binds (ps := ["least", "parts"]) fun _ _ _ _ _ _ us hl => match us, hl with | [_, _], _ => rfl
  have F_show_set := fun_mk (st := s_show_set) l_show_set d_show_set k_show_set
  have b_show_set := F_show_set.binds (ps := ["names"]) fun _ _ _ _ _ _ us hl => match us, hl with | [_], _ => rfl
  have F_show_rule := fun_mk (st := s_show_rule) l_show_rule d_show_rule k_show_rule
  have b_show_rule := F_show_rule.binds (ps := ["rule"]) fun _ _ _ _ _ _ us hl => match us, hl with | [_], _ => rfl
  have F__law_deal := fun_mk (st := s__law_deal) l__law_deal d__law_deal k__law_deal
  have b__law_deal := F__law_deal.binds (ps := ["_law_script", "_law_base"]) fun _ _ _ _ _ _ us hl => match us, hl with | [_, _], _ => rfl
  have F__law_draw := fun_mk (st := s__law_draw) l__law_draw d__law_draw k__law_draw
  have b__law_draw := F__law_draw.binds (ps := ["_law_deal_here", "_law_many"]) fun _ _ _ _ _ _ us hl => match us, hl with | [_, _], _ => rfl
  have F__law_mixed := fun_mk (st := s__law_mixed) l__law_mixed d__law_mixed k__law_mixed
  have b__law_mixed := F__law_mixed.binds (ps := ["_law_deal_here", "_law_items"]) fun _ _ _ _ _ _ us hl => match us, hl with | [_, _], _ => rfl
  have F__law_some := fun_mk (st := s__law_some) l__law_some d__law_some k__law_some
  have b__law_some := F__law_some.binds (ps := ["_law_deal_here", "_law_items", "_law_one_in"]) fun _ _ _ _ _ _ us hl => match us, hl with | [_, _, _], _ => rfl
  have F__law_any_word := fun_mk (st := s__law_any_word) l__law_any_word d__law_any_word k__law_any_word
  have b__law_any_word := F__law_any_word.binds (ps := ["_law_deal_here", "_law_last"]) fun _ _ _ _ _ _ us hl => match us, hl with | [_, _], _ => rfl
  have F__law_words := fun_mk (st := s__law_words) l__law_words d__law_words k__law_words
  have b__law_words := F__law_words.binds (ps := ["_law_deal_here", "_law_many"]) fun _ _ _ _ _ _ us hl => match us, hl with | [_, _], _ => rfl
  have F__law_holds := fun_mk (st := s__law_holds) l__law_holds d__law_holds k__law_holds
  have b__law_holds := F__law_holds.binds (ps := ["_law_sets", "_law_parts"]) fun _ _ _ _ _ _ us hl => match us, hl with | [_, _], _ => rfl
  have F__law_within := fun_mk (st := s__law_within) l__law_within d__law_within k__law_within
  have b__law_within := F__law_within.binds (ps := ["_law_parts", "_law_wider"]) fun _ _ _ _ _ _ us hl => match us, hl with | [_, _], _ => rfl
  have F__law_least := fun_mk (st := s__law_least) l__law_least d__law_least k__law_least
  have b__law_least := F__law_least.binds (ps := ["_law_sets"]) fun _ _ _ _ _ _ us hl => match us, hl with | [_], _ => rfl
  have F__law_drawn_sets := fun_mk (st := s__law_drawn_sets) l__law_drawn_sets d__law_drawn_sets k__law_drawn_sets
  have b__law_drawn_sets := F__law_drawn_sets.binds (ps := ["_law_deal_here", "_law_names"]) fun _ _ _ _ _ _ us hl => match us, hl with | [_, _], _ => rfl
  have F__law_truth := fun_mk (st := s__law_truth) l__law_truth d__law_truth k__law_truth
  have b__law_truth := F__law_truth.binds (ps := ["_law_found", "_law_due"]) fun _ _ _ _ _ _ us hl => match us, hl with | [_, _], _ => rfl
  have F_law := fun_mk (st := s_law) l_law d_law k_law
  have b_law : ∀ (s : Shared) (v : Value), BindsTo s (PySem.W.fnOf "law" "law" (defArgs s_law) (defBody s_law) (defScope s_law) .none kV_law dc_law pm_law an_law cd_law ct_law) ⟨[v], []⟩ [("_law_script", v)] := fun s v => .of_eq rfl
  have b_law' := F_law.binds (ps := ["_law_script"]) fun _ _ _ _ _ _ us hl => match us, hl with | [_], _ => rfl
  have F_Rule___init__ := fun_mk (st := s_Rule___init__) l_Rule___init__ d_Rule___init__ k_Rule___init__
  have b_Rule___init__ := F_Rule___init__.binds (ps := ["self", "least"]) fun _ _ _ _ _ _ us hl => match us, hl with | [_, _], _ => rfl
  have F_Rule_of_sets := fun_mk (st := s_Rule_of_sets) l_Rule_of_sets d_Rule_of_sets k_Rule_of_sets
  have b_Rule_of_sets := F_Rule_of_sets.binds (ps := ["cls", "sets"]) fun _ _ _ _ _ _ us hl => match us, hl with | [_, _], _ => rfl
  have F_Rule___call__ := fun_mk (st := s_Rule___call__) l_Rule___call__ d_Rule___call__ k_Rule___call__
  have b_Rule___call__ := F_Rule___call__.binds (ps := ["self", "parts"]) fun _ _ _ _ _ _ us hl => match us, hl with | [_, _], _ => rfl
  have F_Rule___bool__ := fun_mk (st := s_Rule___bool__) l_Rule___bool__ d_Rule___bool__ k_Rule___bool__
  have b_Rule___bool__ := F_Rule___bool__.binds (ps := ["self"]) fun _ _ _ _ _ _ us hl => match us, hl with | [_], _ => rfl
  have F_Rule___repr__ := fun_mk (st := s_Rule___repr__) l_Rule___repr__ d_Rule___repr__ k_Rule___repr__
  have b_Rule___repr__ := F_Rule___repr__.binds (ps := ["self"]) fun _ _ _ _ _ _ us hl => match us, hl with | [_], _ => rfl
  refine ⟨_, b_law, fun base _ _ => ?_⟩
  have y_all := PySem.W.mg_none_of X G z_all
  have y_any := PySem.W.mg_none_of X G z_any
  have y_bool := PySem.W.mg_none_of X G z_bool
  have y_enumerate := PySem.W.mg_none_of X G z_enumerate
  have y_int := PySem.W.mg_none_of X G z_int
  have y_isinstance := PySem.W.mg_none_of X G z_isinstance
  have y_len := PySem.W.mg_none_of X G z_len
  have y_list := PySem.W.mg_none_of X G z_list
  have y_max := PySem.W.mg_none_of X G z_max
  have y_range := PySem.W.mg_none_of X G z_range
  have y_repr := PySem.W.mg_none_of X G z_repr
  have y_reversed := PySem.W.mg_none_of X G z_reversed
  have y_set := PySem.W.mg_none_of X G z_set
  have y_sorted := PySem.W.mg_none_of X G z_sorted
  have y_sum := PySem.W.mg_none_of X G z_sum
  have y_tuple := PySem.W.mg_none_of X G z_tuple
  have g_names_in := PySem.W.mg_of X G a_names_in
  have g_mask_of := PySem.W.mg_of X G a_mask_of
  have g_names_of := PySem.W.mg_of X G a_names_of
  have g_in_order := PySem.W.mg_of X G a_in_order
  have g_least_masks := PySem.W.mg_of X G a_least_masks
  have g_least_sets := PySem.W.mg_of X G a_least_sets
  have g_holds := PySem.W.mg_of X G a_holds
  have g_show_set := PySem.W.mg_of X G a_show_set
  have g_show_rule := PySem.W.mg_of X G a_show_rule
  have g__law_deal := PySem.W.mg_of X G a__law_deal
  have g__law_draw := PySem.W.mg_of X G a__law_draw
  have g__law_mixed := PySem.W.mg_of X G a__law_mixed
  have g__law_some := PySem.W.mg_of X G a__law_some
  have g__law_any_word := PySem.W.mg_of X G a__law_any_word
  have g__law_words := PySem.W.mg_of X G a__law_words
  have g__law_holds := PySem.W.mg_of X G a__law_holds
  have g__law_within := PySem.W.mg_of X G a__law_within
  have g__law_least := PySem.W.mg_of X G a__law_least
  have g__law_drawn_sets := PySem.W.mg_of X G a__law_drawn_sets
  have g__law_truth := PySem.W.mg_of X G a__law_truth
  have g_law := PySem.W.mg_of X G a_law
  have gC_Rule := PySem.W.mg_of X G aC_Rule
  have GD := ok_draw (P := P) (w := w) (base := base) (k := 0) F__law_draw y_len
  have GM := ok_mix (k := 1) F__law_mixed GD g__law_draw k__law_draw b__law_draw y_list y_len y_range
  have GA := ok_any (k := 1) F__law_any_word GD g__law_draw k__law_draw b__law_draw y_range
  have GW := ok_wor (k := 2) F__law_words (GD.mono (by decide)) g__law_draw k__law_draw b__law_draw GM g__law_mixed k__law_mixed b__law_mixed GA g__law_any_word k__law_any_word b__law_any_word y_range y_len y_int
  obtain ⟨T, ec, el⟩ : ∃ T : Tx P w K mg base, T.c = ⟨C_Rule, kitAt K C_Rule⟩ ∧ (T.f_law = fa ∧ T.fd_law = PySem.W.fnOf "law" "law" (defArgs s_law) (defBody s_law) (defScope s_law) .none kV_law dc_law pm_law an_law cd_law ct_law) := ⟨{
    f_names_in := f_names_in,
    fd_names_in := _,
    F_names_in := F_names_in,
    b_names_in := b_names_in,
    g_names_in := g_names_in,
    k_names_in := k_names_in,
    f_mask_of := f_mask_of,
    fd_mask_of := _,
    F_mask_of := F_mask_of,
    b_mask_of := b_mask_of,
    g_mask_of := g_mask_of,
    k_mask_of := k_mask_of,
    f_names_of := f_names_of,
    fd_names_of := _,
    F_names_of := F_names_of,
    b_names_of := b_names_of,
    g_names_of := g_names_of,
    k_names_of := k_names_of,
    f_in_order := f_in_order,
    fd_in_order := _,
    F_in_order := F_in_order,
    b_in_order := b_in_order,
    g_in_order := g_in_order,
    k_in_order := k_in_order,
    f_least_masks := f_least_masks,
    fd_least_masks := _,
    F_least_masks := F_least_masks,
    b_least_masks := b_least_masks,
    g_least_masks := g_least_masks,
    k_least_masks := k_least_masks,
    f_least_sets := f_least_sets,
    fd_least_sets := _,
    F_least_sets := F_least_sets,
    b_least_sets := b_least_sets,
    g_least_sets := g_least_sets,
    k_least_sets := k_least_sets,
    f_holds := f_holds,
    fd_holds := _,
    F_holds := F_holds,
    b_holds := b_holds,
    g_holds := g_holds,
    k_holds := k_holds,
    f_show_set := f_show_set,
    fd_show_set := _,
    F_show_set := F_show_set,
    b_show_set := b_show_set,
    g_show_set := g_show_set,
    k_show_set := k_show_set,
    f_show_rule := f_show_rule,
    fd_show_rule := _,
    F_show_rule := F_show_rule,
    b_show_rule := b_show_rule,
    g_show_rule := g_show_rule,
    k_show_rule := k_show_rule,
    f__law_deal := f__law_deal,
    fd__law_deal := _,
    F__law_deal := F__law_deal,
    b__law_deal := b__law_deal,
    g__law_deal := g__law_deal,
    k__law_deal := k__law_deal,
    f__law_draw := f__law_draw,
    fd__law_draw := _,
    F__law_draw := F__law_draw,
    b__law_draw := b__law_draw,
    g__law_draw := g__law_draw,
    k__law_draw := k__law_draw,
    f__law_mixed := f__law_mixed,
    fd__law_mixed := _,
    F__law_mixed := F__law_mixed,
    b__law_mixed := b__law_mixed,
    g__law_mixed := g__law_mixed,
    k__law_mixed := k__law_mixed,
    f__law_some := f__law_some,
    fd__law_some := _,
    F__law_some := F__law_some,
    b__law_some := b__law_some,
    g__law_some := g__law_some,
    k__law_some := k__law_some,
    f__law_words := f__law_words,
    fd__law_words := _,
    F__law_words := F__law_words,
    b__law_words := b__law_words,
    g__law_words := g__law_words,
    k__law_words := k__law_words,
    f__law_holds := f__law_holds,
    fd__law_holds := _,
    F__law_holds := F__law_holds,
    b__law_holds := b__law_holds,
    g__law_holds := g__law_holds,
    k__law_holds := k__law_holds,
    f__law_within := f__law_within,
    fd__law_within := _,
    F__law_within := F__law_within,
    b__law_within := b__law_within,
    g__law_within := g__law_within,
    k__law_within := k__law_within,
    f__law_least := f__law_least,
    fd__law_least := _,
    F__law_least := F__law_least,
    b__law_least := b__law_least,
    g__law_least := g__law_least,
    k__law_least := k__law_least,
    f__law_drawn_sets := f__law_drawn_sets,
    fd__law_drawn_sets := _,
    F__law_drawn_sets := F__law_drawn_sets,
    b__law_drawn_sets := b__law_drawn_sets,
    g__law_drawn_sets := g__law_drawn_sets,
    k__law_drawn_sets := k__law_drawn_sets,
    f__law_truth := f__law_truth,
    fd__law_truth := _,
    F__law_truth := F__law_truth,
    b__law_truth := b__law_truth,
    g__law_truth := g__law_truth,
    k__law_truth := k__law_truth,
    f_law := fa,
    fd_law := _,
    F_law := F_law,
    b_law := b_law',
    g_law := g_law,
    k_law := k_law,
    f_Rule___init__ := f_Rule___init__,
    fd_Rule___init__ := _,
    F_Rule___init__ := F_Rule___init__,
    b_Rule___init__ := b_Rule___init__,
    f_Rule_of_sets := f_Rule_of_sets,
    fd_Rule_of_sets := _,
    F_Rule_of_sets := F_Rule_of_sets,
    b_Rule_of_sets := b_Rule_of_sets,
    f_Rule___call__ := f_Rule___call__,
    fd_Rule___call__ := _,
    F_Rule___call__ := F_Rule___call__,
    b_Rule___call__ := b_Rule___call__,
    f_Rule___bool__ := f_Rule___bool__,
    fd_Rule___bool__ := _,
    F_Rule___bool__ := F_Rule___bool__,
    b_Rule___bool__ := b_Rule___bool__,
    f_Rule___repr__ := f_Rule___repr__,
    fd_Rule___repr__ := _,
    F_Rule___repr__ := F_Rule___repr__,
    b_Rule___repr__ := b_Rule___repr__,
    z_all := y_all,
    z_any := y_any,
    z_bool := y_bool,
    z_int := y_int,
    z_isinstance := y_isinstance,
    z_len := y_len,
    z_list := y_list,
    z_range := y_range,
    z_repr := y_repr,
    z_set := y_set,
    z_sorted := y_sorted,
    z_tuple := y_tuple,
    c := ⟨C_Rule, kitAt K C_Rule⟩,
    kit := kitAt_le,
    cl_Rule := ⟨pg_Rule, hd_Rule, po_Rule, sa_Rule⟩,
    g_Rule := gC_Rule,
    mk_Rule := ⟨mk_Rule, a_Rule___init__, fn_Rule___init__, kc_Rule⟩,
    mc_Rule := .type "type",
    cr_Rule := ⟨rd_Rule, ga_Rule⟩,
    kt_list := kt_list,
    pc_Rule_of_sets := pc_Rule_of_sets,
    cm_Rule_of_sets := ⟨a_Rule_of_sets, ⟨_, rc_Rule_of_sets⟩, fi_Rule_of_sets⟩,
    fl_Rule_least := fun C hC => by obtain rfl := List.mem_singleton.mp hC; exact ⟨⟨pg_Rule, hd_Rule, po_Rule, sa_Rule⟩, na_Rule_least⟩,
    fl_Rule_names := fun C hC => by obtain rfl := List.mem_singleton.mp hC; exact ⟨⟨pg_Rule, hd_Rule, po_Rule, sa_Rule⟩, na_Rule_names⟩,
    at_Rule___call__ := a_Rule___call__,
    fn_Rule___call__ := fn_Rule___call__,
    fi_Rule___call__ := fi_Rule___call__,
    k_isi_bool := kitAt_ref ⟨⟨pg_Rule, hd_Rule, po_Rule, sa_Rule⟩, ca_Rule, cg, ct, mo_Rule⟩,
    ok_names_in := fn_pp (ok_nam (k := 0) F_names_in y_sorted) (fun _ _ h => by obtain ⟨_, rfl, h⟩ := a1_e h; exact h),
    ok_mask_of := fn_pp (ok_msk (k := 0) F_mask_of y_sum y_enumerate) (fun _ _ h => by obtain ⟨_, _, rfl, h⟩ := a2_e h; exact h),
    ok_names_of := fn_pp (ok_nof (k := 0) F_names_of y_tuple y_enumerate) (fun _ _ h => by obtain ⟨_, _, rfl, h⟩ := a2_e h; exact h),
    ok_least_masks := fn_pp (ok_lea (k := 0) F_least_masks y_sorted y_set y_any) (fun _ _ h => by obtain ⟨_, rfl, h⟩ := a1_e h; exact h),
    ok__law_mixed := mix_dw GM,
    ok__law_words := wor_dw GW,
    ok__law_draw := GD.imp fun _ _ _ _ h => draw_w h,
    ok__law_deal := ok_deal (k := 0) F__law_deal y_max y_list y_reversed }, rfl, rfl, rfl⟩
  have L := ok_law T fun ns hl => m_law (by rw [ec]; exact kitAt_self) (by rw [ec]; exact kitAt_bool (K := K) (R := C_Rule)) ns hl
  rw [el.1, el.2] at L
  exact L
end Dw

open PySem PySem.W PyProof.Rows in
set_option maxRecDepth 100000 in
set_option maxHeartbeats 0 in
theorem PySem.Challenge.cw_nestprops_k02_rules_of_sets_holds : PySem.Challenge.rw_nestprops_k02_rules_of_sets.Holds := by
  w_on; o_law; k_head; (case hw => w_witness2)
  k_fill
  refine Dw.walk_g (l := PySem.Challenge.rw_nestprops_k02_rules_of_sets) (n := 63) (k := 5) (x := "_law_script") (sp := fun w => Dw.spLaw _) rfl (by decide) rfl ⟨rfl, by decide, by decide⟩ (fun w h Y => PySem.W.kIn_of Y) ?F (fun w H a ns hl hO hS => ⟨a, ns, rfl, hS, hl, fun _ => rfl⟩)
  case F =>
    intro w mg fa h KX G hmg
    refine' Dw.all_mk KX G hmg ?aC_Rule ?a_names_in ?l_names_in ?d_names_in ?k_names_in ?a_mask_of ?l_mask_of ?d_mask_of ?k_mask_of ?a_names_of ?l_names_of ?d_names_of ?k_names_of ?a_in_order ?l_in_order ?d_in_order ?k_in_order ?a_least_masks ?l_least_masks ?d_least_masks ?k_least_masks ?a_least_sets ?l_least_sets ?d_least_sets ?k_least_sets ?a_holds ?l_holds ?d_holds ?k_holds ?a_show_set ?l_show_set ?d_show_set ?k_show_set ?a_show_rule ?l_show_rule ?d_show_rule ?k_show_rule ?a__law_deal ?l__law_deal ?d__law_deal ?k__law_deal ?a__law_draw ?l__law_draw ?d__law_draw ?k__law_draw ?a__law_mixed ?l__law_mixed ?d__law_mixed ?k__law_mixed ?a__law_some ?l__law_some ?d__law_some ?k__law_some ?a__law_any_word ?l__law_any_word ?d__law_any_word ?k__law_any_word ?a__law_words ?l__law_words ?d__law_words ?k__law_words ?a__law_holds ?l__law_holds ?d__law_holds ?k__law_holds ?a__law_within ?l__law_within ?d__law_within ?k__law_within ?a__law_least ?l__law_least ?d__law_least ?k__law_least ?a__law_drawn_sets ?l__law_drawn_sets ?d__law_drawn_sets ?k__law_drawn_sets ?a__law_truth ?l__law_truth ?d__law_truth ?k__law_truth ?a_law ?l_law ?d_law ?k_law ?a_Rule___init__ ?fn_Rule___init__ ?fi_Rule___init__ ?l_Rule___init__ ?d_Rule___init__ ?k_Rule___init__ ?a_Rule_of_sets ?rc_Rule_of_sets ?fi_Rule_of_sets ?l_Rule_of_sets ?d_Rule_of_sets ?k_Rule_of_sets ?a_Rule___call__ ?fn_Rule___call__ ?fi_Rule___call__ ?l_Rule___call__ ?d_Rule___call__ ?k_Rule___call__ ?a_Rule___bool__ ?fn_Rule___bool__ ?fi_Rule___bool__ ?l_Rule___bool__ ?d_Rule___bool__ ?k_Rule___bool__ ?a_Rule___repr__ ?fn_Rule___repr__ ?fi_Rule___repr__ ?l_Rule___repr__ ?d_Rule___repr__ ?k_Rule___repr__ ?pg_Rule ?hd_Rule ?po_Rule ?sa_Rule ?mk_Rule ?kc_Rule ?rd_Rule ?ga_Rule ?ca_Rule ?mo_Rule ?cg ?ct ?na_Rule_least ?na_Rule_names ?kt_list ?z_all ?z_any ?z_bool ?z_enumerate ?z_int ?z_isinstance ?z_len ?z_list ?z_max ?z_range ?z_repr ?z_reversed ?z_set ?z_sorted ?z_sum ?z_tuple
    (case aC_Rule => k_is)
    (case a_names_in => k_is)
    (case l_names_in => k_is)
    (case d_names_in => k_is)
    (case k_names_in => k_is)
    (case a_mask_of => k_is)
    (case l_mask_of => k_is)
    (case d_mask_of => k_is)
    (case k_mask_of => k_is)
    (case a_names_of => k_is)
    (case l_names_of => k_is)
    (case d_names_of => k_is)
    (case k_names_of => k_is)
    (case a_in_order => k_is)
    (case l_in_order => k_is)
    (case d_in_order => k_is)
    (case k_in_order => k_is)
    (case a_least_masks => k_is)
    (case l_least_masks => k_is)
    (case d_least_masks => k_is)
    (case k_least_masks => k_is)
    (case a_least_sets => k_is)
    (case l_least_sets => k_is)
    (case d_least_sets => k_is)
    (case k_least_sets => k_is)
    (case a_holds => k_is)
    (case l_holds => k_is)
    (case d_holds => k_is)
    (case k_holds => k_is)
    (case a_show_set => k_is)
    (case l_show_set => k_is)
    (case d_show_set => k_is)
    (case k_show_set => k_is)
    (case a_show_rule => k_is)
    (case l_show_rule => k_is)
    (case d_show_rule => k_is)
    (case k_show_rule => k_is)
    (case a__law_deal => k_is)
    (case l__law_deal => k_is)
    (case d__law_deal => k_is)
    (case k__law_deal => k_is)
    (case a__law_draw => k_is)
    (case l__law_draw => k_is)
    (case d__law_draw => k_is)
    (case k__law_draw => k_is)
    (case a__law_mixed => k_is)
    (case l__law_mixed => k_is)
    (case d__law_mixed => k_is)
    (case k__law_mixed => k_is)
    (case a__law_some => k_is)
    (case l__law_some => k_is)
    (case d__law_some => k_is)
    (case k__law_some => k_is)
    (case a__law_any_word => k_is)
    (case l__law_any_word => k_is)
    (case d__law_any_word => k_is)
    (case k__law_any_word => k_is)
    (case a__law_words => k_is)
    (case l__law_words => k_is)
    (case d__law_words => k_is)
    (case k__law_words => k_is)
    (case a__law_holds => k_is)
    (case l__law_holds => k_is)
    (case d__law_holds => k_is)
    (case k__law_holds => k_is)
    (case a__law_within => k_is)
    (case l__law_within => k_is)
    (case d__law_within => k_is)
    (case k__law_within => k_is)
    (case a__law_least => k_is)
    (case l__law_least => k_is)
    (case d__law_least => k_is)
    (case k__law_least => k_is)
    (case a__law_drawn_sets => k_is)
    (case l__law_drawn_sets => k_is)
    (case d__law_drawn_sets => k_is)
    (case k__law_drawn_sets => k_is)
    (case a__law_truth => k_is)
    (case l__law_truth => k_is)
    (case d__law_truth => k_is)
    (case k__law_truth => k_is)
    (case a_law => k_is)
    (case l_law => k_is)
    (case d_law => k_is)
    (case k_law => k_is)
    (case a_Rule___init__ => k_is)
    (case fn_Rule___init__ => k_is)
    (case fi_Rule___init__ => k_is)
    (case l_Rule___init__ => k_is)
    (case d_Rule___init__ => k_is)
    (case k_Rule___init__ => k_is)
    (case a_Rule_of_sets => k_is)
    (case rc_Rule_of_sets => k_is)
    (case fi_Rule_of_sets => k_is)
    (case l_Rule_of_sets => k_is)
    (case d_Rule_of_sets => k_is)
    (case k_Rule_of_sets => k_is)
    (case a_Rule___call__ => k_is)
    (case fn_Rule___call__ => k_is)
    (case fi_Rule___call__ => k_is)
    (case l_Rule___call__ => k_is)
    (case d_Rule___call__ => k_is)
    (case k_Rule___call__ => k_is)
    (case a_Rule___bool__ => k_is)
    (case fn_Rule___bool__ => k_is)
    (case fi_Rule___bool__ => k_is)
    (case l_Rule___bool__ => k_is)
    (case d_Rule___bool__ => k_is)
    (case k_Rule___bool__ => k_is)
    (case a_Rule___repr__ => k_is)
    (case fn_Rule___repr__ => k_is)
    (case fi_Rule___repr__ => k_is)
    (case l_Rule___repr__ => k_is)
    (case d_Rule___repr__ => k_is)
    (case k_Rule___repr__ => k_is)
    (case pg_Rule => k_is)
    (case hd_Rule => k_is)
    (case po_Rule => k_is)
    (case sa_Rule => k_is)
    (case mk_Rule => k_is)
    (case kc_Rule => k_is)
    (case rd_Rule => k_is)
    (case ga_Rule => k_is)
    (case ca_Rule => k_is)
    (case mo_Rule => k_is)
    (case cg => k_is)
    (case ct => k_is)
    (case na_Rule_least => k_is)
    (case na_Rule_names => k_is)
    (case kt_list => kernel_rfl)
    (case z_all => k_is)
    (case z_any => k_is)
    (case z_bool => k_is)
    (case z_enumerate => k_is)
    (case z_int => k_is)
    (case z_isinstance => k_is)
    (case z_len => k_is)
    (case z_list => k_is)
    (case z_max => k_is)
    (case z_range => k_is)
    (case z_repr => k_is)
    (case z_reversed => k_is)
    (case z_set => k_is)
    (case z_sorted => k_is)
    (case z_sum => k_is)
    (case z_tuple => k_is)
